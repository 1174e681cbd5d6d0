/-
  Texts of one seat, one behind the other: JSta, JMem, JEnd, JUp, JDn, JPop, JPsh.
-/
import Derived.Deep.DeepCutAuto
import Derived.Deep.RegionLaw
import Derived.Test.YtepkogfiojkcpaaDoorMA15

set_option linter.unusedVariables false
set_option linter.unusedSimpArgs false
set_option maxRecDepth 100000
set_option maxHeartbeats 51200000
namespace Go.Proofs.YtepkogfiojkcpaaDoor
open Go.ChangeShapes Go.WideShapes Go.ChangeAt Go.RowKit Go.Sort
theorem stable_any (R n c:Nat) (G:Nat→Iv) (w:World) (h:Blk w R 110 (ivA c G)) (hB:BdF n G) (hn:n≤c) (hc:c≤5000) :
  Calls Tryd.prog 72 #[.slice (some ⟨R,0,none⟩) n c,.int .i64 n,.func (.func 52) #[] #[]] w fun e w'=>e=.returned (.tuple #[])∧SrI w R c (stb kyF n G) w':=by
 obtain ⟨T1,hT1⟩:∃ T,T=stR kyF n (n+1) 0 G:=⟨_,rfl⟩
 obtain ⟨T,hT⟩:∃ T,T=mgL kyF n n 20 T1:=⟨_,rfl⟩
 rw [show stb kyF n G=T by rw [hT,hT1];rfl]
 have HT1:=Lib.hid hT1
 have HT:=Lib.hid hT
 have H0:=Lib.hid (SrI.start h)
 have HB:=Lib.hid hB
 clear h hB hT1 hT
 go_enter Tryd.func72,Tryd.ntmps72
 go_wp2
 go_loopw [7,8] (fun s u wr=>∃ (a b f:Nat) (F:Nat→Iv),a≤n∧b≤6000∧s=.int .i64 a∧u=.int .i64 b∧Hid (b=a+20∧stR kyF n f a F=T1∧n-a<f)∧Hid (SrI w R c F wr)∧Hid (BdF n F)) (fun s _ _=>n-(intOf s).toNat)
 case atStart=>exact ⟨0,20,n+1,G,Nat.zero_le _,by omega,rfl,rfl,Lib.hid ⟨rfl,HT1.out.symm,by omega⟩,H0,HB⟩
 case round =>
  clear H0 HB
  obtain ⟨a,b,f,F,ha,hb6,rfl,rfl,HR,HI,HB⟩:=hrel
  obtain ⟨k1,k2,k3⟩:=HR.out
  obtain ⟨f,rfl⟩:∃ f',f=f'+1:=⟨f-1,by omega⟩
  unfold stR at k2
  by_cases hlt:b≤n
  ·rw [if_pos (by omega),← k1] at k2
   have HC:=Lib.hid (insert_any R n c a b F wr HI.out.row HB.out hlt hn hc (by omega))
   obtain ⟨b2,hb2⟩:∃ b2,b2=b+20:=⟨_,rfl⟩
   have hbi:(b:Int)+20=b2:=by omega
   have HK:Hid (b2=b+20∧stR kyF n f b (insS kyF a b F)=T1∧n-b<f):=Lib.hid ⟨hb2,k2,by omega⟩
   have HBF:Hid (BdF n (insS kyF a b F)):=Lib.hid (HB.out.prm (m:=n) (insS_prm kyF F hlt))
   have HAB:Hid (a<b∧b2≤6000):=Lib.hid ⟨by omega,by omega⟩
   clear k1 k2 k3 hb2 HR
   go_wp2_with (go_at_call 94;refine HC.out.mono ?_;rintro e w2 ⟨rfl,hs⟩;have HS:=Lib.hid hs;clear hs)
   go_roundw
   case rel=>exact ⟨b,b2,f,_,hlt,HAB.out.2,rfl,by go_num,HK,Lib.hid (HI.out.then_ HS.out),HBF⟩
   case measure=>have:=HAB.out;simp [intOf];omega
  ·rw [if_neg (by omega)] at k2
   have HC:=Lib.hid (insert_any R n c a n F wr HI.out.row HB.out (Nat.le_refl _) hn hc (by omega))
   rw [k2] at HC
   have HBF:Hid (BdF n T1):=Lib.hid (by rw [← k2];exact HB.out.prm (m:=n) (insS_prm kyF F (Nat.le_refl _)))
   clear k1 k2 k3 HR
   go_wp2_with (go_at_call 94;refine HC.out.mono ?_;rintro e w2 ⟨rfl,hs⟩;have HS:=Lib.hid hs;clear hs)
   have HI2:Hid (SrI w R c T1 w2):=Lib.hid (HI.out.then_ HS.out)
   clear HS HC HI HB
   go_loopw [6] (fun s wr=>∃ (z f:Nat) (F:Nat→Iv),z≤10000∧s=.int .i64 z∧Hid (0<z∧mgL kyF n f z F=T∧n-z≤f)∧Hid (SrI w R c F wr)∧Hid (BdF n F)) (fun s _=>n-(intOf s).toNat)
   case atStart=>exact ⟨20,n,T1,by omega,rfl,Lib.hid ⟨by omega,HT.out.symm,by omega⟩,HI2,HBF⟩
   case round =>
    clear HI2 HBF HT HT1
    obtain ⟨z,f,F,hz1,rfl,HR,HI,HB⟩:=hrel
    obtain ⟨k1,k2,k3⟩:=HR.out
    by_cases hzn:z<n
    ·obtain ⟨f,rfl⟩:∃ f',f=f'+1:=⟨f-1,by omega⟩
     unfold mgL at k2
     rw [if_pos hzn] at k2
     obtain ⟨U,hU⟩:∃ U,U=mgR kyF n z (n+1) 0 F:=⟨_,rfl⟩
     rw [← hU] at k2
     obtain ⟨z2,hz2⟩:∃ z2,z2=2*z:=⟨_,rfl⟩
     have hzi:(2:Int)*z=z2:=by omega
     have hzj:(z:Int)*2=z2:=by omega
     rw [← hz2] at k2
     have HU:=Lib.hid hU
     have HK:Hid (0<z2∧mgL kyF n f z2 U=T∧n-z2≤f):=Lib.hid ⟨by omega,k2,by omega⟩
     have HZ2:=Lib.hid hz2
     have hz25:z2≤10000:=by omega
     have HZ0:=Lib.hid k1
     clear k1 k2 k3 hU hz2 HR
     go_wp2
     obtain ⟨wo,rfl⟩:∃ wo:World,wo=wr:=⟨_,rfl⟩
     go_loopw [7,8] (fun s u wr=>∃ (a b f:Nat) (F:Nat→Iv),a≤n∧b≤20000∧s=.int .i64 a∧u=.int .i64 b∧Hid (b=a+z2∧mgR kyF n z f a F=U∧n-a<f)∧Hid (SrI w R c F wr)∧Hid (BdF n F)) (fun s _ _=>n-(intOf s).toNat)
     case atStart=>exact ⟨0,z2,n+1,F,Nat.zero_le _,by omega,rfl,rfl,Lib.hid ⟨by omega,HU.out.symm,by omega⟩,HI,HB⟩
     case round =>
      clear HI HB
      obtain ⟨a,b,f3,F3,ha,hb6,rfl,rfl,HR,HI,HB⟩:=hrel
      obtain ⟨k1,k2,k3⟩:=HR.out
      obtain ⟨f3,rfl⟩:∃ f',f3=f'+1:=⟨f3-1,by omega⟩
      unfold mgR at k2
      have hz0:=HZ0.out
      rw [← HZ2.out] at k2
      obtain ⟨m,hm⟩:∃ m,m=a+z:=⟨_,rfl⟩
      have hmi:(a:Int)+z=m:=by omega
      have hm5:m≤20000:=by omega
      rw [← hm] at k2
      by_cases hlt2:b≤n
      ·rw [if_pos (by omega),← k1] at k2
       have HC:=Lib.hid (symM_any R n c hn hc z2 a m b F3 wr HI.out.row HB.out (by omega) (by have:=HZ2.out;omega) hlt2 (by omega))
       obtain ⟨b2,hb2⟩:∃ b2,b2=b+z2:=⟨_,rfl⟩
       have hbi:(b:Int)+z2=b2:=by omega
       have HK2:Hid (b2=b+z2∧mgR kyF n z f3 b (symM kyF z2 a m b F3)=U∧n-b<f3):=Lib.hid ⟨hb2,k2,by have:=HZ2.out;omega⟩
       have HBF:Hid (BdF n (symM kyF z2 a m b F3)):=Lib.hid (HB.out.prm (m:=n) (symM_prm kyF n z2 a m b F3 (by omega) (by have:=HZ2.out;omega) hlt2))
       have HAB:Hid (a<b∧b2≤20000):=Lib.hid ⟨by have:=HZ2.out;omega,by omega⟩
       clear k1 k2 k3 hb2 HR hm hz0
       go_wp2_with (go_at_call 95;refine HC.out.mono ?_;rintro e w2 ⟨rfl,hs⟩;have HS:=Lib.hid hs;clear hs)
       go_roundw
       case rel=>exact ⟨b,b2,f3,_,hlt2,HAB.out.2,rfl,by go_num,HK2,Lib.hid (HI.out.then_ HS.out),HBF⟩
       case measure=>have:=HAB.out;simp [intOf];omega
      ·rw [if_neg (by omega)] at k2
       have HLZ:Hid (z<z2):=Lib.hid (by have:=HZ2.out;omega)
       by_cases hmn:m<n
       ·rw [if_pos hmn] at k2
        have HC:=Lib.hid (symM_any R n c hn hc z2 a m n F3 wr HI.out.row HB.out (by omega) hmn (Nat.le_refl _) (by omega))
        rw [k2] at HC
        have HBF:Hid (BdF n U):=Lib.hid (by rw [← k2];exact HB.out.prm (m:=n) (symM_prm kyF n z2 a m n F3 (by omega) hmn (Nat.le_refl _)))
        clear k1 k2 k3 HR hm hz0
        go_wp2_with (go_at_call 95;refine HC.out.mono ?_;rintro e w2 ⟨rfl,hs⟩;have HS:=Lib.hid hs;clear hs)
        go_roundw
        case rel=>exact ⟨z2,f,U,hz25,by go_num,HK,Lib.hid (HI.out.then_ HS.out),HBF⟩
        case measure=>have:=HLZ.out;simp [intOf];omega
       ·rw [if_neg hmn] at k2
        have HI2:Hid (SrI w R c U wr):=Lib.hid (by rw [← k2];exact HI.out)
        have HBF:Hid (BdF n U):=Lib.hid (by rw [← k2];exact HB.out)
        clear k1 k2 k3 HR hm hz0
        go_wp2
        go_roundw
        case rel=>exact ⟨z2,f,U,hz25,by go_num,HK,HI2,HBF⟩
        case measure=>have:=HLZ.out;simp [intOf];omega
    ·have HF:Hid (F=T):=Lib.hid (by
      rw [← k2]
      cases f with
      | zero=>rfl
      | succ f=>unfold mgL;rw [if_neg hzn])
     clear k1 k2 k3 HR
     go_wp2
     first | go_end0 | go_ret
     exact ⟨rfl,by rw [← HF.out];exact HI.out⟩
theorem sortS_any (R n c:Nat) (G:Nat→Iv) (w:World) (h:Blk w R 110 (ivA c G)) (hB:BdF n G) (hn:n≤c) (hc:c≤5000) :
  Calls Tryd.prog 51 #[.slice (some ⟨R,0,none⟩) n c,.func (.func 52) #[] #[]] w fun e w'=>e=.returned (.tuple #[])∧SrI w R c (stb kyF n G) w':=by
 have HC:=Lib.hid (stable_any R n c G w h hB hn hc)
 clear h hB
 go_enter Tryd.func51,Tryd.ntmps51
 go_wp2_with (go_at_call 72;refine HC.out.mono ?_;rintro e w2 ⟨rfl,hs⟩;have HS:=Lib.hid hs;clear hs)
 first | go_end0 | go_ret
 exact ⟨rfl,HS.out⟩
open Go.ChangeShapes Go.WideShapes Go.ChangeAt Go.RowKit
structure U3 where
 b:Int
 t:Int
 l:Nat
def u0:U3:=⟨0,0,0⟩
def usX (rb:Nat) (u:U3) (j:Nat):Value:=if j=0 then .int .i64 u.b else if j=1 then .int .i64 u.t else .pointer (some ⟨rb,u.l,none⟩)
def usc (rb:Nat) (us:List U3):List Value:=(List.range (us.length*3)).map fun k=>usX rb (us.getD (k / 3) u0) (k % 3)
theorem usc_len (rb:Nat) (us:List U3):(usc rb us).length=us.length*3:=by simp [usc]
theorem usc_at {rb:Nat} {us:List U3} {k:Nat} (h:k<us.length*3):(usc rb us)[k]?=some (usX rb (us.getD (k / 3) u0) (k % 3)):=by
 unfold usc
 rw [List.getElem?_map,List.getElem?_range h]
 rfl
theorem usc_cell {rb:Nat} {us:List U3} {i j:Nat} (h:i<us.length) (hj:j<3):(usc rb us)[i*3+j]?=some (usX rb (us.getD i u0) j):=by
 rw [usc_at (by omega),show (i*3+j) / 3=i by omega,show (i*3+j) % 3=j by omega]
theorem getD_set {us:List U3} {i k:Nat} {u:U3} (h:i<us.length):(us.set i u).getD k u0=if k=i then u else us.getD k u0:=by
 rw [List.getD_eq_getElem?_getD,List.getElem?_set]
 by_cases e:i=k
 ·rw [if_pos e,if_pos h,if_pos e.symm];rfl
 ·rw [if_neg e,if_neg (fun hh=>e hh.symm),List.getD_eq_getElem?_getD]
theorem usc_set {rb:Nat} {us:List U3} {i:Nat} {u:U3} (h:i<us.length):(((usc rb us).set (i*3) (.int .i64 u.b)).set (i*3+1) (.int .i64 u.t)).set (i*3+2) (.pointer (some ⟨rb,u.l,none⟩))=usc rb (us.set i u):=by
 apply List.ext_getElem?
 intro k
 rw [List.getElem?_set,List.getElem?_set,List.getElem?_set,List.length_set,List.length_set,usc_len]
 by_cases hk:k<us.length*3
 ·rw [usc_at hk,usc_at (by rw [List.length_set];exact hk),getD_set h]
  by_cases e2:i*3+2=k
  ·rw [if_pos e2,if_pos (by omega),if_pos (by omega),show k % 3=2 by omega];rfl
  ·rw [if_neg e2]
   by_cases e1:i*3+1=k
   ·rw [if_pos e1,if_pos (by omega),if_pos (by omega),show k % 3=1 by omega];rfl
   ·rw [if_neg e1]
    by_cases e0:i*3=k
    ·rw [if_pos e0,if_pos (by omega),if_pos (by omega),show k % 3=0 by omega];rfl
    ·rw [if_neg e0,if_neg (by omega)]
 ·rw [if_neg (by omega),if_neg (by omega),if_neg (by omega),List.getElem?_eq_none (by rw [usc_len];omega),List.getElem?_eq_none (by rw [usc_len,List.length_set];omega)]
theorem usc_push (rb:Nat) (us:List U3) (u:U3):usc rb (us ++ [u])=usc rb us ++ [.int .i64 u.b,.int .i64 u.t,.pointer (some ⟨rb,u.l,none⟩)]:=by
 apply List.ext_getElem?
 intro k
 by_cases hk:k<us.length*3
 ·rw [List.getElem?_append_left (by rw [usc_len];exact hk),usc_at hk,usc_at (by simp;omega),List.getD_eq_getElem?_getD,List.getElem?_append_left (by omega),List.getD_eq_getElem?_getD]
 ·rw [List.getElem?_append_right (by rw [usc_len];omega),usc_len]
  by_cases hk2:k<us.length*3+3
  ·rw [usc_at (by simp;omega),List.getD_eq_getElem?_getD,List.getElem?_append_right (by omega),show k / 3-us.length=0 by omega]
   have h3:k=us.length*3∨k=us.length*3+1∨k=us.length*3+2:=by omega
   rcases h3 with rfl | rfl | rfl
   ·rw [show us.length*3 % 3=0 by omega,show us.length*3-us.length*3=0 by omega];rfl
   ·rw [show (us.length*3+1) % 3=1 by omega,show us.length*3+1-us.length*3=1 by omega];rfl
   ·rw [show (us.length*3+2) % 3=2 by omega,show us.length*3+2-us.length*3=2 by omega];rfl
  ·rw [List.getElem?_eq_none (by rw [usc_len];simp;omega),List.getElem?_eq_none (by simp;omega)]
theorem usc_take (rb n:Nat) (us:List U3):(usc rb us).take (n*3)=usc rb (us.take n):=by
 apply List.ext_getElem?
 intro k
 rw [List.getElem?_take]
 by_cases h1:k<n*3
 ·rw [if_pos h1]
  by_cases h2:k<us.length*3
  ·rw [usc_at h2,usc_at (by rw [List.length_take];omega),List.getD_eq_getElem?_getD,List.getD_eq_getElem?_getD,List.getElem?_take,if_pos (by omega)]
  ·rw [List.getElem?_eq_none (by rw [usc_len];omega),List.getElem?_eq_none (by rw [usc_len,List.length_take];omega)]
 ·rw [if_neg h1,List.getElem?_eq_none (by rw [usc_len,List.length_take];omega)]
def swU (us:List U3) (i j:Nat):List U3:=(us.set i (us.getD j u0)).set j (us.getD i u0)
theorem swU_len (us:List U3) (i j:Nat):(swU us i j).length=us.length:=by simp [swU]
def Kp (ks:Nat→Option Obj) (rb:Nat) (V:Nat→Value) (uv:Value) (w:World):Prop:=∀ g o,ks g=some o→w.heap[g]?=some o∧g≠rb∧(∀ l,l<4→(V l).ownBlock≠some g)∧uv.ownBlock≠some g
section
variable {ks:Nat→Option Obj} {rb:Nat} {V:Nat→Value} {uv:Value} {w w':World}
theorem Kp.lt (h:Kp ks rb V uv w) {g:Nat} {o:Obj} (hk:ks g=some o):g<w.heap.size:=by
 obtain ⟨x,_⟩:=Array.getElem?_eq_some_iff.1 (h g o hk).1
 exact x
theorem Kp.on (h:Kp ks rb V uv w) (hb:Below w.heap.size w w'):Kp ks rb V uv w':=fun g o hk=>⟨(hb.block g (h.lt hk)).trans (h g o hk).1,(h g o hk).2⟩
theorem Kp.set (h:Kp ks rb V uv w) {p:Addr} (hp:p.block=rb∨uv.ownBlock=some p.block) (u:Value):Kp ks rb V uv (w.setCell p u):=fun g o hk=>by
 obtain ⟨h1,h2,h3,h4⟩:=h g o hk
 refine ⟨(Below.heap_setCell w p u g fun e=>?_).trans h1,h2,h3,h4⟩
 rcases hp with e2 | e2
 ·exact h2 (by rw [e,e2])
 ·exact h4 (by rw [e2,e])
theorem Kp.grown {o':Obj} {row:Option Nat} (h:Kp ks rb V uv w) (hg:(w.alloc o').grownBy w' row) (hr:row=uv.ownBlock∨∃ l,l<4∧row=(V l).ownBlock):Kp ks rb V uv w':=fun g o hk=>by
 have ha:=h.on ((Below.refl w.heap.size w).alloc (Nat.le_refl _) o')
 obtain ⟨h1,h2,h3,h4⟩:=ha g o hk
 refine ⟨(hg.block g (ha.lt hk) fun e=>?_).trans h1,h2,h3,h4⟩
 rcases hr with e2 | ⟨l,hl,e2⟩
 ·exact h4 (by rw [← e2,e])
 ·exact h3 l hl (by rw [← e2,e])
theorem Kp.swapU {v':Value} (h:Kp ks rb V uv w) (hv:∀ g o,ks g=some o→v'.ownBlock≠some g):Kp ks rb V v' w:=fun g o hk=>by
 obtain ⟨h1,h2,h3,h4⟩:=h g o hk
 exact ⟨h1,h2,h3,hv g o hk⟩
theorem Kp.swapV {v':Value} {l:Nat} (h:Kp ks rb V uv w) (hv:∀ g o,ks g=some o→v'.ownBlock≠some g):Kp ks rb (upd V l v') uv w:=fun g o hk=>by
 obtain ⟨h1,h2,h3,h4⟩:=h g o hk
 refine ⟨h1,h2,fun k hk4=>?_,h4⟩
 by_cases e:k=l
 ·subst e
  rw [upd_at]
  exact hv g o hk
 ·rw [upd_ne e]
  exact h3 k hk4
theorem Kp.fresh {v':Value} {x:Option Nat} {o':Obj} (h:Kp ks rb V uv w) (hv:v'.ownBlock=x∨v'.ownBlock=some (w.alloc o').heap.size) (hx:∀ g o,ks g=some o→x≠some g):∀ g o,ks g=some o→v'.ownBlock≠some g:=fun g o hk=>by
 rcases hv with e | e
 ·rw [e];exact hx g o hk
 ·rw [e]
  intro e2
  injection e2 with e2
  have:=h.lt hk
  simp at e2
  omega
end
structure RmI (ks:Nat→Option Obj) (rb:Nat) (V:Nat→Value) (L:Nat→List Int) (nx:Int) (uv:Value) (us:List U3) (w:World):Prop where
 box:Blk w rb 136 #[V 0,V 1,V 2,V 3,.int .i64 nx,uv]
 own:∀ l,l<4→w.ownsRow (rb+1) 3 1 (V l) (L l).length (i64c (L l))
 sep:∀ l k,l<4→k<4→l≠k→∀ g,(V l).ownBlock=some g→(V k).ownBlock≠some g
 uses:w.ownsRow (rb+1) 139 3 uv us.length (usc rb us)
 keep:Kp ks rb V uv w
section
variable {ks:Nat→Option Obj} {rb:Nat} {V:Nat→Value} {L:Nat→List Int} {nx:Int} {uv:Value} {us:List U3} {w w':World}
theorem RmI.on (h:RmI ks rb V L nx uv us w) (hb:Below w.heap.size w w'):RmI ks rb V L nx uv us w' :=
 ⟨h.box.below hb h.box.lt,fun l hl=>own_kept (h.own l hl) fun g hg=>hb.block g (own_block_le (h.own l hl) hg).2,h.sep,own_kept h.uses fun g hg=>hb.block g (own_block_le h.uses hg).2,h.keep.on hb⟩
theorem RmI.drewN1 (h:RmI ks rb V L nx uv us w):RmI ks rb V L nx uv us w.drew:=h.on (Below.refl _ _).drew
theorem RmI.dn (h:RmI ks rb V L nx uv us w) (n:Nat):RmI ks rb V L nx uv us (w.drewN n):=h.on (below_drewN (Below.refl _ _) n)
theorem RmI.urow (h:RmI ks rb V L nx uv us w) (hn:0<us.length):∃ g cap,uv=.slice (some ⟨g,0,none⟩) us.length cap∧rb<g∧g<w.heap.size:=by
 obtain ⟨g,cap,hv,hg,hlt⟩:=h.uses.form hn
 exact ⟨g,cap,hv,hg,hlt⟩
theorem RmI.ucell {g cap:Nat} (h:RmI ks rb V L nx (.slice (some ⟨g,0,none⟩) us.length cap) us w) {i:Nat} (hi:i<us.length) :
  w.cell? ⟨g,i*3,none⟩=some (.int .i64 (us.getD i u0).b)∧w.cell? ⟨g,i*3+1,none⟩=some (.int .i64 (us.getD i u0).t)∧w.cell? ⟨g,i*3+2,none⟩=some (.pointer (some ⟨rb,(us.getD i u0).l,none⟩)) ∧
  w.frozen? ⟨g,i*3,none⟩=false∧w.frozen? ⟨g,i*3+1,none⟩=false∧w.frozen? ⟨g,i*3+2,none⟩=false:=by
 refine ⟨?_,?_,?_,h.uses.frozenAt _,h.uses.frozenAt _,h.uses.frozenAt _⟩
 ·rw [h.uses.cellAt _ (by omega)];exact usc_cell (j:=0) hi (by decide)
 ·rw [h.uses.cellAt _ (by omega),usc_cell hi (by decide)];rfl
 ·rw [h.uses.cellAt _ (by omega),usc_cell hi (by decide)];rfl
def setU (w:World) (rb g i:Nat) (u:U3):World:=((w.setCell ⟨g,i*3,none⟩ (.int .i64 u.b)).setCell ⟨g,i*3+1,none⟩ (.int .i64 u.t)).setCell ⟨g,i*3+2,none⟩ (.pointer (some ⟨rb,u.l,none⟩))
theorem own_blk {w:World} {base size n c g:Nat} {e:TypeId} {xs:List Value} (h:w.ownsRow base e size (.slice (some ⟨g,0,none⟩) n c) n xs):∃ cur,Blk w g e cur:=by
 rcases h.2 with ⟨h2,_⟩ | ⟨g',cap,cur,he,_,hb,_⟩
 ·simp at h2
 ·simp at he
  exact ⟨cur,by rw [he.1];exact hb⟩
theorem RmI.setU {g cap i:Nat} {u:U3} (h:RmI ks rb V L nx (.slice (some ⟨g,0,none⟩) us.length cap) us w) (hi:i<us.length):RmI ks rb V L nx (.slice (some ⟨g,0,none⟩) us.length cap) (us.set i u) (setU w rb g i u):=by
 obtain ⟨cur,hb⟩:=own_blk h.uses
 have b1:=hb.set_ (i*3) (.int .i64 u.b)
 have b2:=b1.set_ (i*3+1) (.int .i64 u.t)
 have s1:=(h.uses.stored (i*3) (.int .i64 u.b)).1
 have s2:=(s1.stored (i*3+1) (.int .i64 u.t)).1
 have s3:=(s2.stored (i*3+2) (.pointer (some ⟨rb,u.l,none⟩))).1
 rw [usc_set hi] at s3
 refine ⟨?_,fun l hl=>?_,h.sep,by rw [List.length_set];exact s3,((h.keep.set (p:=⟨g,i*3,none⟩) (.inr rfl) _).set (p:=⟨g,i*3+1,none⟩) (.inr rfl) _).set (p:=⟨g,i*3+2,none⟩) (.inr rfl) _⟩
 ·have hne:rb≠g:=h.box.ne_ hb (by decide)
  exact ((h.box.far (p:=⟨g,i*3,none⟩) hne _).far (p:=⟨g,i*3+1,none⟩) hne _).far (p:=⟨g,i*3+2,none⟩) hne _
 ·exact own_far (own_far (own_far (h.own l hl) hb (by decide) _ _) b1 (by decide) _ _) b2 (by decide) _ _
theorem below_setU {B g i:Nat} {u:U3} {w0:World} (h:Below B w0 w) (hg:B≤g):Below B w0 (Go.Proofs.YtepkogfiojkcpaaDoor.setU w rb g i u):=((h.setCell (p:=⟨g,i*3,none⟩) hg _).setCell (p:=⟨g,i*3+1,none⟩) hg _).setCell (p:=⟨g,i*3+2,none⟩) hg _
end
section
variable {ks:Nat→Option Obj} {rb:Nat} {V:Nat→Value} {L:Nat→List Int} {nx:Int} {uv:Value} {us:List U3} {w:World}
theorem len_any (h:RmI ks rb V L nx uv us w) (hl:us.length≤5000) :
  Calls Tryd.prog 74 #[.pointer (some ⟨rb,5,none⟩)] w fun e w'=>e=.returned (.int .i64 us.length)∧w'=w:=by
 obtain ⟨A,c,rfl⟩:=own_slice h.uses
 have x5:w.cell? ⟨rb,5,none⟩=some (.slice A us.length c):=h.box.cell 5
 obtain ⟨n,hn⟩:∃ n,n=us.length:=⟨_,rfl⟩
 rw [← hn] at x5 hl ⊢
 clear h hn
 go_enter Tryd.func74,Tryd.ntmps74
 go_wp2
 first | go_end0 | go_ret
 exact ⟨rfl,rfl⟩
theorem less_any (h:RmI ks rb V L nx uv us w) {i j:Nat} (hi:i<us.length) (hj:j<us.length) (hl:us.length≤5000) :
  Calls Tryd.prog 140 #[.pointer (some ⟨rb,5,none⟩),.int .i64 i,.int .i64 j] w fun e w'=>e=.returned (.bool (decide ((us.getD i u0).t<(us.getD j u0).t)))∧∃ q,w'=w.drewN q:=by
 obtain ⟨g,cap,rfl,hg,hgw⟩:=h.urow (by omega)
 have x5:w.cell? ⟨rb,5,none⟩=some (.slice (some ⟨g,0,none⟩) us.length cap):=h.box.cell 5
 obtain ⟨_,y1,_,_,_,_⟩:=h.ucell hi
 obtain ⟨_,z1,_,_,_,_⟩:=h.ucell hj
 obtain ⟨n,hn⟩:∃ n,n=us.length:=⟨_,rfl⟩
 obtain ⟨p,hp⟩:∃ p,p=(us.getD i u0).t:=⟨_,rfl⟩
 obtain ⟨q,hq⟩:∃ p,p=(us.getD j u0).t:=⟨_,rfl⟩
 rw [← hn] at x5 hl hi hj
 rw [← hp] at y1 ⊢
 rw [← hq] at z1 ⊢
 clear h hn hp hq
 go_enter Tryd.func140,Tryd.ntmps140
 go_wp2
 go_quiet (fail)
 go_wp2
 first | go_end0 | go_ret
 exact ⟨rfl,_,rfl⟩
theorem swapU_any (h:RmI ks rb V L nx uv us w) {i j:Nat} (hi:i<us.length) (hj:j<us.length) (hij:i≠j) (hl:us.length≤5000) :
  Calls Tryd.prog 143 #[.pointer (some ⟨rb,5,none⟩),.int .i64 i,.int .i64 j] w fun e w'=>e=.returned (.tuple #[])∧RmI ks rb V L nx uv (swU us i j) w'∧Below rb w w':=by
 obtain ⟨g,cap,rfl,hg,hgw⟩:=h.urow (by omega)
 have x5:w.cell? ⟨rb,5,none⟩=some (.slice (some ⟨g,0,none⟩) us.length cap):=h.box.cell 5
 obtain ⟨y0,y1,y2,f0,f1,f2⟩:=h.ucell hi
 obtain ⟨z0,z1,z2,g0,g1,g2⟩:=h.ucell hj
 have h1:=h.setU (u:=us.getD j u0) hi
 have hln:us.length=(us.set i (us.getD j u0)).length:=by rw [List.length_set]
 rw [hln] at h1
 have h2:=h1.setU (u:=us.getD i u0) (show j<(us.set i (us.getD j u0)).length by rw [List.length_set];exact hj)
 rw [← hln] at h2
 have HR:=Lib.hid h2.drewN1
 have HB:Hid (Below rb w (setU (setU w rb g i (us.getD j u0)) rb g j (us.getD i u0)).drew):=Lib.hid ((below_setU (below_setU (Below.refl _ _) (by omega)) (by omega)).drew)
 obtain ⟨n,hn⟩:∃ n,n=us.length:=⟨_,rfl⟩
 obtain ⟨X,hX⟩:∃ p,p=us.getD i u0:=⟨_,rfl⟩
 obtain ⟨Y,hY⟩:∃ p,p=us.getD j u0:=⟨_,rfl⟩
 have HSW:Hid (swU us i j=(us.set i Y).set j X):=Lib.hid (by rw [hX,hY];rfl)
 rw [← hX] at y0 y1 y2 HR HB
 rw [← hY] at z0 z1 z2 HR HB
 rw [← hn] at x5 hl hi hj HR
 have HN:=Lib.hid hn
 have hji:¬ j=i:=fun e=>hij e.symm
 have hrg:¬ rb=g:=by omega
 have hgr:¬ g=rb:=by omega
 unfold setU at HR HB
 clear h h1 h2 hln hn hX hY
 go_enter Tryd.func143,Tryd.ntmps143
 go_wp2
 go_region
 go_wp2
 first | go_end0 | go_ret
 exact ⟨rfl,by rw [HSW.out,← HN.out];exact HR.out,HB.out⟩
end
theorem len_m (rb : Nat) (W : World) : (method 306 141 (.pointer (some ⟨rb, 5, none⟩)) "Len").run Tryd.prog W = .ok (74, .pointer (some ⟨rb, 5, none⟩)) W := by kernel_rfl
theorem len_n (rb : Nat) (W : World) : (nilAhead 306 141 (.pointer (some ⟨rb, 5, none⟩)) "Len").run Tryd.prog W = .ok (some false) W := by kernel_rfl
theorem less_m (rb : Nat) (W : World) : (method 306 141 (.pointer (some ⟨rb, 5, none⟩)) "Less").run Tryd.prog W = .ok (140, .pointer (some ⟨rb, 5, none⟩)) W := by kernel_rfl
theorem less_n (rb : Nat) (W : World) : (nilAhead 306 141 (.pointer (some ⟨rb, 5, none⟩)) "Less").run Tryd.prog W = .ok (some false) W := by kernel_rfl
theorem swap_m (rb : Nat) (W : World) : (method 306 141 (.pointer (some ⟨rb, 5, none⟩)) "Swap").run Tryd.prog W = .ok (143, .pointer (some ⟨rb, 5, none⟩)) W := by kernel_rfl
theorem swap_n (rb : Nat) (W : World) : (nilAhead 306 141 (.pointer (some ⟨rb, 5, none⟩)) "Swap").run Tryd.prog W = .ok (some false) W := by kernel_rfl
theorem push_m (rb : Nat) (W : World) : (method 306 141 (.pointer (some ⟨rb, 5, none⟩)) "Push").run Tryd.prog W = .ok (142, .pointer (some ⟨rb, 5, none⟩)) W := by kernel_rfl
theorem push_n (rb : Nat) (W : World) : (nilAhead 306 141 (.pointer (some ⟨rb, 5, none⟩)) "Push").run Tryd.prog W = .ok (some false) W := by kernel_rfl
theorem pop_m (rb : Nat) (W : World) : (method 306 141 (.pointer (some ⟨rb, 5, none⟩)) "Pop").run Tryd.prog W = .ok (141, .pointer (some ⟨rb, 5, none⟩)) W := by kernel_rfl
theorem pop_n (rb : Nat) (W : World) : (nilAhead 306 141 (.pointer (some ⟨rb, 5, none⟩)) "Pop").run Tryd.prog W = .ok (some false) W := by kernel_rfl
def upU:Nat→List U3→Nat→List U3
 | 0,us,_=>us
 | f+1,us,j=>if j=0∨¬ (us.getD j u0).t<(us.getD ((j-1) / 2) u0).t then us else upU f (swU us ((j-1) / 2) j) ((j-1) / 2)
theorem upU_len:∀ (f:Nat) (us:List U3) (j:Nat),(upU f us j).length=us.length
 | 0,us,j=>rfl
 | f+1,us,j=>by
  unfold upU
  split
  ·rfl
  ·rw [upU_len f,swU_len]
def chD (us:List U3) (i n:Nat):Nat:=if 2*i+2<n∧(us.getD (2*i+2) u0).t<(us.getD (2*i+1) u0).t then 2*i+2 else 2*i+1
def downU:Nat→List U3→Nat→Nat→List U3
 | 0,us,_,_=>us
 | f+1,us,i,n=>if n≤2*i+1 then us else if ¬ (us.getD (chD us i n) u0).t<(us.getD i u0).t then us else downU f (swU us i (chD us i n)) (chD us i n) n
theorem downU_len:∀ (f:Nat) (us:List U3) (i n:Nat),(downU f us i n).length=us.length
 | 0,us,i,n=>rfl
 | f+1,us,i,n=>by
  unfold downU
  split
  ·rfl
  ·split
   ·rfl
   ·rw [downU_len f,swU_len]
section
variable {ks:Nat→Option Obj} {rb:Nat} {V:Nat→Value} {L:Nat→List Int} {nx:Int} {uv:Value} {us:List U3} {w:World}
theorem up_any (h:RmI ks rb V L nx uv us w) {j:Nat} (hj:j<us.length) (hl:us.length≤5000) :
  Calls Tryd.prog 99 #[.iface 141 (.pointer (some ⟨rb,5,none⟩)),.int .i64 j] w fun e w'=>e=.returned (.tuple #[])∧RmI ks rb V L nx uv (upU (j+1) us j) w'∧Below rb w w':=by
 obtain ⟨T,hT⟩:∃ T,T=upU (j+1) us j:=⟨_,rfl⟩
 obtain ⟨n,hn⟩:∃ n,n=us.length:=⟨_,rfl⟩
 rw [← hT]
 have H0:Hid (RmI ks rb V L nx uv us w∧us.length=n∧upU (j+1) us j=T∧j<j+1∧Below rb w w):=Lib.hid ⟨h,hn.symm,hT.symm,by omega,Below.refl _ _⟩
 rw [← hn] at hj hl
 have hm1:=less_m rb
 have hm2:=less_n rb
 have hm3:=swap_m rb
 have hm4:=swap_n rb
 clear h hT hn
 go_enter Tryd.func99,Tryd.ntmps99
 go_wp2
 go_loopw [1] (fun s wr=>∃ (k f:Nat) (us:List U3),k<n∧s=.int .i64 k∧Hid (RmI ks rb V L nx uv us wr∧us.length=n∧upU f us k=T∧k<f∧Below rb w wr)) (fun s _=>(intOf s).toNat)
 case atStart=>exact ⟨j,j+1,us,hj,rfl,H0⟩
 case round =>
  clear H0
  obtain ⟨k,f,us,hk,rfl,HI⟩:=hrel
  obtain ⟨hR,hln,hup,hkf,hB⟩:=HI.out
  obtain ⟨f,rfl⟩:∃ f',f=f'+1:=⟨f-1,by omega⟩
  unfold upU at hup
  by_cases hk0:k=0
  ·subst hk0
   rw [if_pos (.inl rfl)] at hup
   have HE:Hid (RmI ks rb V L nx uv T wr∧Below rb w wr):=Lib.hid ⟨by rw [← hup];exact hR,hB⟩
   clear hR hln hup hkf hB HI
   go_wp2
   first | go_end0 | go_ret
   exact ⟨rfl,HE.out.1,HE.out.2⟩
  ·obtain ⟨i,hi⟩:∃ i,i=(k-1) / 2:=⟨_,rfl⟩
   rw [← hi] at hup
   obtain ⟨p,hp⟩:∃ p,p=k-1:=⟨_,rfl⟩
   have hpi:(k:Int)-1=p:=by omega
   have hpd:(p:Int) / 2=i:=by omega
   have hpt:Int.tdiv (p:Int) 2=i:=by rw [Int.tdiv_eq_ediv_of_nonneg (by omega)];exact hpd
   have hin:i<n:=by omega
   have hp5:p≤5000:=by omega
   have gik:((i:Int) == (k:Int))=false:=by simp;omega
   have hik:¬ i=k:=by omega
   have HLS:=Lib.hid (less_any hR (i:=k) (j:=i) (by omega) (by omega) (by omega))
   by_cases hlt:(us.getD k u0).t<(us.getD i u0).t
   ·rw [if_neg (by rintro (h1 | h1);exact hk0 h1;exact h1 hlt)] at hup
    rw [decide_eq_true hlt] at HLS
    have HSW:Hid (∀ q,Calls Tryd.prog 143 #[.pointer (some ⟨rb,5,none⟩),.int .i64 i,.int .i64 k] (wr.drewN q) fun e w'=>e=.returned (.tuple #[])∧RmI ks rb V L nx uv (swU us i k) w'∧Below rb (wr.drewN q) w'):=Lib.hid fun q=>swapU_any (hR.dn q) (by omega) (by omega) hik (by omega)
    have HN:Hid ((swU us i k).length=n∧upU f (swU us i k) i=T∧i<f):=Lib.hid ⟨by rw [swU_len];exact hln,hup,by omega⟩
    have HB:=Lib.hid hB
    have HIK:Hid (i<k):=Lib.hid (by omega)
    clear hR hln hup hkf hB HI hi hp hlt
    go_wp2_with (first
     | (go_at_call 140;refine HLS.out.mono ?_;rintro e w2 ⟨rfl,q2,rfl⟩)
     | (go_at_call 143;refine (HSW.out q2).mono ?_;rintro e w3 ⟨rfl,hr3,hb3⟩;have HR3:=Lib.hid hr3;have HB3:Hid (Below rb w w3):=Lib.hid ((below_drewN HB.out q2).trans hb3);clear hr3 hb3))
    go_roundw
    case rel=>exact ⟨i,f,_,hin,by go_num,Lib.hid ⟨HR3.out,HN.out.1,HN.out.2.1,HN.out.2.2,HB3.out⟩⟩
    case measure=>have:=HIK.out;simp [intOf];omega
   ·rw [if_pos (.inr hlt)] at hup
    rw [decide_eq_false hlt] at HLS
    have HE:Hid (∀ q,RmI ks rb V L nx uv T (wr.drewN q)∧Below rb w (wr.drewN q)):=Lib.hid fun q=>⟨by rw [← hup];exact hR.dn q,below_drewN hB q⟩
    clear hR hln hup hkf hB HI hi hp hlt
    go_wp2_with (first
     | (go_at_call 140;refine HLS.out.mono ?_;rintro e w2 ⟨rfl,q2,rfl⟩))
    first | go_end0 | go_ret
    exact ⟨rfl,(HE.out q2).1,(HE.out q2).2⟩
end
section
variable {ks:Nat→Option Obj} {rb:Nat} {V:Nat→Value} {L:Nat→List Int} {nx:Int} {uv:Value} {us:List U3} {w:World}
theorem down_any (h:RmI ks rb V L nx uv us w) {n:Nat} (hn:n≤us.length) (hl:us.length≤5000) :
  Calls Tryd.prog 98 #[.iface 141 (.pointer (some ⟨rb,5,none⟩)),.int .i64 0,.int .i64 n] w fun e w'=>(∃ b,e=.returned (.bool b))∧RmI ks rb V L nx uv (downU (n+1) us 0 n) w'∧Below rb w w':=by
 obtain ⟨T,hT⟩:∃ T,T=downU (n+1) us 0 n:=⟨_,rfl⟩
 obtain ⟨m,hm⟩:∃ m,m=us.length:=⟨_,rfl⟩
 rw [← hT]
 have H0:Hid (RmI ks rb V L nx uv us w∧us.length=m∧downU (n+1) us 0 n=T∧n-0<n+1∧Below rb w w):=Lib.hid ⟨h,hm.symm,hT.symm,by omega,Below.refl _ _⟩
 rw [← hm] at hn hl
 have hn5:n≤5000:=by omega
 have HNM:=Lib.hid hn
 have hm1:=less_m rb
 have hm2:=less_n rb
 have hm3:=swap_m rb
 have hm4:=swap_n rb
 clear h hT hm hn
 go_enter Tryd.func98,Tryd.ntmps98
 go_wp2
 go_loopw [7] (fun s wr=>∃ (k f:Nat) (us:List U3),k≤n∧s=.int .i64 k∧Hid (RmI ks rb V L nx uv us wr∧us.length=m∧downU f us k n=T∧n-k<f∧Below rb w wr)) (fun s _=>n-(intOf s).toNat)
 case atStart=>exact ⟨0,n+1,us,Nat.zero_le _,rfl,H0⟩
 case round =>
  clear H0
  obtain ⟨k,f,us,hk,rfl,HI⟩:=hrel
  obtain ⟨hR,hln,hdn,hkf,hB⟩:=HI.out
  obtain ⟨f,rfl⟩:∃ f',f=f'+1:=⟨f-1,by omega⟩
  unfold downU at hdn
  obtain ⟨j1,hj1⟩:∃ j,j=2*k+1:=⟨_,rfl⟩
  have hji:(2:Int)*k+1=j1:=by omega
  have hj5:j1≤10001:=by omega
  by_cases hj1n:n≤j1
  ·rw [if_pos (by omega)] at hdn
   have HE:Hid (RmI ks rb V L nx uv T wr∧Below rb w wr):=Lib.hid ⟨by rw [← hdn];exact hR,hB⟩
   have g1:decide ((j1:Int)≥n)=true:=decide_eq_true (by omega)
   clear hR hln hdn hkf hB HI hj1
   go_wp2
   first | go_end0 | go_ret
   exact ⟨⟨_,rfl⟩,HE.out.1,HE.out.2⟩
  ·rw [if_neg (by omega)] at hdn
   obtain ⟨j,hj⟩:∃ j,j=chD us k n:=⟨_,rfl⟩
   rw [← hj] at hdn
   obtain ⟨j2,hj2⟩:∃ j,j=j1+1:=⟨_,rfl⟩
   have hj2i:(j1:Int)+1=j2:=by omega
   have hj25:j2≤10002:=by omega
   have hjn:j<n∧k<j∧(j=j1∨j=j2):=by
    rw [hj]
    unfold chD
    split
    ·omega
    ·omega
   have HCH:Hid (j=if j2<n∧(us.getD j2 u0).t<(us.getD j1 u0).t then j2 else j1):=Lib.hid (by
    rw [hj]
    unfold chD
    rw [show 2*k+2=j2 by omega,← hj1])
   have HJN:=Lib.hid hjn
   have HR:=Lib.hid hR
   have HB:=Lib.hid hB
   have hnm:=HNM.out
   have HLS:Hid (∀ (a b q:Nat),a<m→b<m→Calls Tryd.prog 140 #[.pointer (some ⟨rb,5,none⟩),.int .i64 a,.int .i64 b] (wr.drewN q) fun e w'=>e=.returned (.bool (decide ((us.getD a u0).t<(us.getD b u0).t)))∧∃ q',w'=wr.drewN q'):=Lib.hid fun a b q ha hb=>by
    refine (less_any (hR.dn q) (i:=a) (j:=b) (by omega) (by omega) (by omega)).mono ?_
    rintro e w' ⟨he,q',rfl⟩
    exact ⟨he,q+q',World.drewN_drewN ..⟩
   have HDN:=Lib.hid hdn
   have HLN:=Lib.hid hln
   have HKF:=Lib.hid hkf
   have hjj:j1<m:=by omega
   have HJJ:Hid (j<m∧k<m):=Lib.hid (by omega)
   clear hR hln hdn hkf hB HI hj1 hj hj2 hjn
   go_upto_region 6 with fail
   go_cut [33] (fun t wx=>t=.bool (decide (j2<n∧(us.getD j2 u0).t<(us.getD j1 u0).t))∧∃ q,wx=wr.drewN q)
   case first =>
    by_cases c1:j2<n
    ·have HC:=Lib.hid (HLS.out j2 j1 0 (by omega) hjj)
     rw [show wr.drewN 0=wr from rfl] at HC
     go_wp2_with (go_at_call 140;refine HC.out.mono ?_;rintro e w2 ⟨rfl,q2,rfl⟩)
     go_meet
     exact ⟨by simp [c1],q2,rfl⟩
    ·go_wp2
     go_meet
     exact ⟨by rw [decide_eq_false (show ¬ (j2<n∧(us.getD j2 u0).t<(us.getD j1 u0).t) from fun hh=>c1 hh.1)],0,rfl⟩
   case rest =>
    obtain ⟨rfl,q,rfl⟩:=hcut
    obtain ⟨y,hy⟩:∃ y,y=decide (j2<n∧(us.getD j2 u0).t<(us.getD j1 u0).t):=⟨_,rfl⟩
    rw [← hy]
    have HY:=Lib.hid hy
    clear hy
    obtain ⟨W2,hW2⟩:∃ W,W=wr.drewN q:=⟨_,rfl⟩
    rw [← hW2]
    have HW2:=Lib.hid hW2
    clear hW2
    go_upto_if 33 with fail
    go_cut [9] (fun t wx=>t=.int .i64 j∧wx=W2)
    case first =>
     have hch:=HCH.out
     cases y with
     | true =>
      rw [if_pos (of_decide_eq_true HY.out.symm)] at hch
      have HC:=Lib.hid hch
      clear hch
      go_wp2
      go_meet
      exact ⟨by rw [HC.out],rfl⟩
     | false =>
      rw [if_neg (of_decide_eq_false HY.out.symm)] at hch
      have HC:=Lib.hid hch
      clear hch
      go_wp2
      go_meet
      exact ⟨by rw [HC.out],rfl⟩
    case rest =>
     obtain ⟨rfl,rfl⟩:=hcut
     have HC:=Lib.hid (HLS.out j k q HJJ.out.1 HJJ.out.2)
     rw [← HW2.out] at HC
     have hdn:=HDN.out
     have hkm:k<m:=HJJ.out.2
     by_cases hlt:(us.getD j u0).t<(us.getD k u0).t
     ·rw [if_neg (fun hh=>hh hlt)] at hdn
      rw [decide_eq_true hlt] at HC
      have HSW:Hid (∀ q,Calls Tryd.prog 143 #[.pointer (some ⟨rb,5,none⟩),.int .i64 k,.int .i64 j] (wr.drewN q) fun e w'=>e=.returned (.tuple #[])∧RmI ks rb V L nx uv (swU us k j) w'∧Below rb (wr.drewN q) w'):=Lib.hid fun q=>swapU_any (HR.out.dn q) (by rw [HLN.out];exact hkm) (by rw [HLN.out];exact HJJ.out.1) (by have:=HJN.out;omega) (by rw [HLN.out];exact hl)
      have HN:Hid ((swU us k j).length=m∧downU f (swU us k j) j n=T∧n-j<f):=Lib.hid ⟨by rw [swU_len];exact HLN.out,hdn,by have:=HJN.out;have:=HKF.out;omega⟩
      clear hdn hlt
      go_wp2_with (first
       | (go_at_call 140;refine HC.out.mono ?_;rintro e w2 ⟨rfl,q2,rfl⟩)
       | (go_at_call 143;refine (HSW.out q2).mono ?_;rintro e w3 ⟨rfl,hr3,hb3⟩;have HR3:=Lib.hid hr3;have HB3:Hid (Below rb w w3):=Lib.hid ((below_drewN HB.out q2).trans hb3);clear hr3 hb3))
      go_roundw
      case rel=>exact ⟨j,f,_,by have:=HJN.out;omega,by go_num,Lib.hid ⟨HR3.out,HN.out.1,HN.out.2.1,HN.out.2.2,HB3.out⟩⟩
      case measure=>have:=HJN.out;simp [intOf];omega
     ·rw [if_pos hlt] at hdn
      rw [decide_eq_false hlt] at HC
      have HE:Hid (∀ q,RmI ks rb V L nx uv T (wr.drewN q)∧Below rb w (wr.drewN q)):=Lib.hid fun q=>⟨by rw [← hdn];exact HR.out.dn q,below_drewN HB.out q⟩
      clear hdn hlt
      go_wp2_with (first
       | (go_at_call 140;refine HC.out.mono ?_;rintro e w2 ⟨rfl,q2,rfl⟩))
      first | go_end0 | go_ret
      exact ⟨⟨_,rfl⟩,(HE.out q2).1,(HE.out q2).2⟩
end
theorem own_cutU {W:World} {base size n k c:Nat} {e:TypeId} {A:Option Addr} {xs:List Value} (h:W.ownsRow base e size (.slice A n c) n xs) (hk:k≤n) (h0:0<n):W.ownsRow base e size (.slice A k c) k (xs.take (k*size)):=by
 have hks:k*size≤n*size:=Nat.mul_le_mul_right _ hk
 rcases h.2 with ⟨h2,h3⟩ | ⟨g,cap,cur,he,hg,hb,hn,hm,hc,ht⟩
 ·simp at h2
  omega
 ·simp at he
  obtain ⟨rfl,rfl⟩:=he
  refine ⟨by rw [List.length_take,h.1];omega,.inr ⟨g,c,cur,rfl,hg,hb,by omega,hm,hc,?_⟩⟩
  rw [← ht,List.take_take,show min (k*size) (n*size)=k*size by omega]
section
variable {ks:Nat→Option Obj} {rb:Nat} {V:Nat→Value} {L:Nat→List Int} {nx:Int} {uv:Value} {us:List U3} {w:World}
theorem RmI.cutU {g cap:Nat} (h:RmI ks rb V L nx (.slice (some ⟨g,0,none⟩) us.length cap) us w) {k:Nat} (hk:k≤us.length) (h0:0<us.length):RmI ks rb V L nx (.slice (some ⟨g,0,none⟩) k cap) (us.take k) (w.setCell ⟨rb,5,none⟩ (.slice (some ⟨g,0,none⟩) k cap)):=by
 have h1:=own_cutU h.uses hk h0
 rw [usc_take] at h1
 have hl:(us.take k).length=k:=by rw [List.length_take];omega
 refine ⟨h.box.set_ 5 _,fun l hl=>own_far (h.own l hl) h.box (by decide) _ _,h.sep,?_,(h.keep.swapU (v':=.slice (some ⟨g,0,none⟩) k cap) fun y o hk=>(h.keep y o hk).2.2.2).set (p:=⟨rb,5,none⟩) (.inl rfl) _⟩
 rw [hl]
 exact own_far h1 h.box (by decide) _ _
theorem takeU_any (h:RmI ks rb V L nx uv us w) {k:Nat} (hk:us.length=k+1) (hl:us.length≤5000) :
  Calls Tryd.prog 144 #[.pointer (some ⟨rb,5,none⟩)] w fun e w'=>e=.returned (.agg #[.int .i64 (us.getD k u0).b,.int .i64 (us.getD k u0).t,.pointer (some ⟨rb,(us.getD k u0).l,none⟩)])∧(∃ uv',RmI ks rb V L nx uv' (us.take k) w')∧Below rb w w':=by
 obtain ⟨g,cap,rfl,hg,hgw⟩:=h.urow (by omega)
 have x5:w.cell? ⟨rb,5,none⟩=some (.slice (some ⟨g,0,none⟩) us.length cap):=h.box.cell 5
 obtain ⟨y0,y1,y2,f0,f1,f2⟩:=h.ucell (show k<us.length by omega)
 have hrw:rb<w.heap.size:=h.box.lt
 have f5:w.frozen? ⟨rb,5,none⟩=false:=h.box.frozen 5
 have HR:=Lib.hid (h.cutU (show k≤us.length by omega) (by omega))
 have hcap:us.length≤cap:=own_cap h.uses
 obtain ⟨n,hn⟩:∃ n,n=us.length:=⟨_,rfl⟩
 obtain ⟨X,hX⟩:∃ p,p=us.getD k u0:=⟨_,rfl⟩
 rw [← hX] at y0 y1 y2 ⊢
 rw [← hn] at x5 hl hk hcap
 have hnk:(n:Int)-1=k:=by omega
 have hkc:k≤cap:=by omega
 have hkn:k<n:=by omega
 have hgr:¬ g=rb:=by omega
 have HLE:Hid (rb≤w.heap.size):=Lib.hid (by omega)
 clear h hn hX hk
 go_enter Tryd.func144,Tryd.ntmps144
 go_wp2
 obtain ⟨W1,hW1⟩:∃ W1,W1=w.setCell ⟨rb,5,none⟩ (.slice (some ⟨g,0,none⟩) k cap):=⟨_,rfl⟩
 rw [← hW1] at HR ⊢
 have hz:W1.heap.size=w.heap.size:=by rw [hW1];simp [World.setCell]
 have hb:=(Blk.new W1 139 #[.int .i64 X.b,.int .i64 X.t,.pointer (some ⟨rb,X.l,none⟩)]).alloc (.cells #[.int .i64 X.b,.int .i64 X.t,.pointer (some ⟨rb,X.l,none⟩)] 139)
 rw [hz] at hb
 have c0:=hb.cell 0
 have c1:=hb.cell 1
 have c2:=hb.cell 2
 have hbl:Below W1.heap.size W1 ((W1.alloc (.cells #[.int .i64 X.b,.int .i64 X.t,.pointer (some ⟨rb,X.l,none⟩)] 139)).alloc (.cells #[.int .i64 X.b,.int .i64 X.t,.pointer (some ⟨rb,X.l,none⟩)] 139)):=((Below.refl _ _).alloc (Nat.le_refl _) _).alloc (by simp) _
 have hbw:Below rb w W1:=by rw [hW1];exact (Below.refl _ _).setCell (p:=⟨rb,5,none⟩) (Nat.le_refl _) _
 refine bodyPost_ret (v:=.agg #[.int .i64 X.b,.int .i64 X.t,.pointer (some ⟨rb,X.l,none⟩)]) (by simp [results,Tryd.results144,go_sem,c0,c1,c2]) rfl ?_
 exact ⟨rfl,⟨_,HR.out.on hbl⟩,hbw.trans (hbl.mono (by rw [hz];exact HLE.out))⟩
end
theorem info_u3:(Tryd.prog.info? 139).map (fun i=>(i.zero,i.size,i.bytes))=some (some (.agg #[.int .i64 0,.int .i64 0,.pointer none]),3,24):=by kernel_rfl
theorem step_use {w:World} {ops:Array Oper} {o:Oper} {a:Act} {K:Act→World→Prop} {Q:Exit→Act→World→Prop} {E:Prop} (hgd:o.guard=none) (s x:Operand)
  (ho:o.op=.call { callee:=.builtin .append,args:=#[s,x],argTypes:=#[132,132] }) (base:Nat)
  (v:Value) (n:Nat) (xs:List Value) (hs:a.eval s=v) (hown:w.ownsRow base 139 3 v n xs)
  (B:Nat) (A:Option Addr) (m c:Nat) (news:List Value) (hx:a.eval x=.slice A m c) (hr:Reads w B 3 A m news) (h1:∀ u ∈ news,u.oneCell'=true)
  (hbytes:(n+m)*24≤140737488355328) (hbase:base≤w.heap.size)
  (h:∀ v' w',w'.ownsRow base 139 3 v' (n+m) (xs ++ news)→w.grownBy w' v.ownBlock→(v'.ownBlock=v.ownBlock∨v'.ownBlock=some w.heap.size)→K (a.put o.dst v') w') :
  if Region.wanted o (yielded ops a.tmps)=true then Oper.wp Tryd.prog o a w K Q else E:=by
 obtain ⟨i0,hi,hz0,hz1,hz2⟩:=info_parts info_u3
 exact step_append_any w hgd s x _ ho base 139 i0 (.agg #[.int .i64 0,.int .i64 0,.pointer none]) 3 24 Tryd.underlying132 hi hz0 hz1 hz2 rfl (by decide) v n xs hs hown B A m c news hx hr h1 (by unfold maxLen;omega) hbytes hbase h
theorem assertU (v:Value) (W:World):(Instr.typeAssert (.iface 139 v) 20 139 false).run Tryd.prog W=.ok v W:=by kernel_rfl
section
variable {ks:Nat→Option Obj} {rb:Nat} {V:Nat→Value} {L:Nat→List Int} {nx:Int} {uv:Value} {us:List U3} {w w':World}
theorem RmI.pushU {o:Obj} {v':Value} {u:U3} (h:RmI ks rb V L nx uv us w) (hown:w'.ownsRow (rb+1) 139 3 v' (us.length+1) (usc rb us ++ [.int .i64 u.b,.int .i64 u.t,.pointer (some ⟨rb,u.l,none⟩)])) (hg:(w.alloc o).grownBy w' uv.ownBlock) (hor:v'.ownBlock=uv.ownBlock∨v'.ownBlock=some (w.alloc o).heap.size) :
  w'.frozen? ⟨rb,5,none⟩=false∧(∃ y,w'.cell? ⟨rb,5,none⟩=some y)∧Hid (RmI ks rb V L nx v' (us ++ [u]) (w'.setCell ⟨rb,5,none⟩ v'))∧Hid (Below rb w (w'.setCell ⟨rb,5,none⟩ v')):=by
 have ho:=own_alloc h.uses o
 have hbx:=blk_grown (h.box.alloc o) ho hg (by decide)
 have hrw:=h.box.lt
 have hbl:Below rb w w':=((Below.refl _ _).alloc (by omega) o).grown hg (by simp;omega) fun g he=>by have:=(own_block_le ho he).1;omega
 rw [← usc_push] at hown
 refine ⟨hbx.frozen 5,⟨_,hbx.cell 5⟩,Lib.hid ⟨hbx.set_ 5 v',fun l hl=>?_,h.sep,?_,((h.keep.grown hg (.inl rfl)).swapU (h.keep.fresh hor fun g o hk=>(h.keep g o hk).2.2.2)).set (p:=⟨rb,5,none⟩) (.inl rfl) _⟩,Lib.hid (hbl.setCell (p:=⟨rb,5,none⟩) (Nat.le_refl _) _)⟩
 ·exact own_far (own_grown ho (own_alloc (h.own l hl) o) hg (by decide)) hbx (by decide) _ _
 ·rw [List.length_append]
  exact own_far hown hbx (by decide) _ _
theorem epop_any (h:RmI ks rb V L nx uv us w) {k:Nat} (hk:us.length=k+1) (hl:us.length≤5000) :
  Calls Tryd.prog 141 #[.pointer (some ⟨rb,5,none⟩)] w fun e w'=>e=.returned (.iface 139 (.agg #[.int .i64 (us.getD k u0).b,.int .i64 (us.getD k u0).t,.pointer (some ⟨rb,(us.getD k u0).l,none⟩)]))∧(∃ uv',RmI ks rb V L nx uv' (us.take k) w')∧Below rb w w':=by
 have HC:=Lib.hid (takeU_any h hk hl)
 clear h hk hl
 go_enter Tryd.func141,Tryd.ntmps141
 go_wp2_with (go_at_call 144;refine HC.out.mono ?_;rintro e w2 ⟨rfl,hr,hb⟩;have HR:=Lib.hid hr;have HB:=Lib.hid hb;clear hr hb)
 first | go_end0 | go_ret
 exact ⟨rfl,HR.out,HB.out⟩
theorem epush_any (h:RmI ks rb V L nx uv us w) (u:U3) (hl:us.length≤5000) :
  Calls Tryd.prog 142 #[.pointer (some ⟨rb,5,none⟩),.iface 139 (.agg #[.int .i64 u.b,.int .i64 u.t,.pointer (some ⟨rb,u.l,none⟩)])] w fun e w'=>e=.returned (.tuple #[])∧(∃ uv',RmI ks rb V L nx uv' (us ++ [u]) w')∧Below rb w w':=by
 obtain ⟨A,c,rfl⟩:=own_slice h.uses
 have x5:w.cell? ⟨rb,5,none⟩=some (.slice A us.length c):=h.box.cell 5
 have x5a:∀ o,(w.alloc o).cell? ⟨rb,5,none⟩=some (.slice A us.length c):=fun o=>(h.box.alloc o).cell 5
 have hrw:rb<w.heap.size:=h.box.lt
 obtain ⟨n,hn⟩:∃ n,n=us.length:=⟨_,rfl⟩
 have HN:=Lib.hid hn
 have H:=Lib.hid h
 rw [← hn] at x5 x5a hl
 have HOA:Hid (∀ o,(w.alloc o).ownsRow (rb+1) 139 3 (.slice A n c) n (usc rb us)):=Lib.hid fun o=>by rw [hn];exact own_alloc h.uses o
 have HPU:Hid (∀ (o:Obj) (v':Value) (w':World),w'.ownsRow (rb+1) 139 3 v' (n+1) (usc rb us ++ [.int .i64 u.b,.int .i64 u.t,.pointer (some ⟨rb,u.l,none⟩)])→(w.alloc o).grownBy w' (Value.slice A n c).ownBlock→(v'.ownBlock=(Value.slice A n c).ownBlock∨v'.ownBlock=some (w.alloc o).heap.size)→w'.frozen? ⟨rb,5,none⟩=false∧(∃ y,w'.cell? ⟨rb,5,none⟩=some y)∧Hid (RmI ks rb V L nx v' (us ++ [u]) (w'.setCell ⟨rb,5,none⟩ v'))∧Hid (Below rb w (w'.setCell ⟨rb,5,none⟩ v'))):=Lib.hid fun o v' w' h1 h2 h3=>by
  rw [hn] at h1 h2 h3
  exact h.pushU h1 h2 h3
 have has:=assertU (.agg #[.int .i64 u.b,.int .i64 u.t,.pointer (some ⟨rb,u.l,none⟩)])
 clear h hn
 go_enter Tryd.func142,Tryd.ntmps142
 go_wp2
 go_region_law (first
  | (refine step_use rfl _ _ rfl (rb+1) (.slice A n c) n (usc rb us) rfl (HOA.out _) (w.heap.size+1) (some ⟨w.heap.size,0,none⟩) 1 1 [.int .i64 u.b,.int .i64 u.t,.pointer (some ⟨rb,u.l,none⟩)] rfl (one_reads w 139 [.int .i64 u.b,.int .i64 u.t,.pointer (some ⟨rb,u.l,none⟩)] 3 rfl) (by simp [Value.oneCell']) (by omega) (by simp;omega) ?_;intro v8 w8 hown hgr hor;obtain ⟨A8,c8,rfl⟩:=own_slice hown;obtain ⟨e8,⟨y8,hy8⟩,HR8,HB8⟩:=HPU.out _ _ _ hown (grown_of_drew hgr) hor;clear hown hgr hor))
 all_goals
  go_wp2
  first | go_end0 | go_ret
  exact ⟨rfl,⟨_,HR8.out⟩,HB8.out⟩
theorem hpush_any (h:RmI ks rb V L nx uv us w) (u:U3) (hl:us.length≤4000) :
  Calls Tryd.prog 78 #[.iface 141 (.pointer (some ⟨rb,5,none⟩)),.iface 139 (.agg #[.int .i64 u.b,.int .i64 u.t,.pointer (some ⟨rb,u.l,none⟩)])] w fun e w'=>e=.returned (.tuple #[])∧(∃ uv',RmI ks rb V L nx uv' (upU (us.length+1) (us ++ [u]) us.length) w')∧Below rb w w':=by
 have HC:=Lib.hid (epush_any h u (by omega))
 have hm1:=push_m rb
 have hm2:=push_n rb
 have hm3:=len_m rb
 have hm4:=len_n rb
 obtain ⟨n,hn⟩:∃ n,n=us.length:=⟨_,rfl⟩
 have hn1:(us ++ [u]).length=n+1:=by simp [hn]
 have HN1:=Lib.hid hn1
 rw [← hn] at hl ⊢
 have hni:((n:Int)+1)-1=n:=by omega
 clear h hn hn1
 go_enter Tryd.func78,Tryd.ntmps78
 go_wp2_with (first
  | (go_at_call 142;refine HC.out.mono ?_;rintro e w2 ⟨rfl,⟨uv2,hr⟩,hb⟩;have HL2:=Lib.hid (len_any hr (by rw [HN1.out];omega));rw [HN1.out] at HL2;have HR2:=Lib.hid hr;have HB2:=Lib.hid hb;clear hr hb)
  | (go_at_call 74;refine HL2.out.mono ?_;rintro e w3 ⟨rfl,rfl⟩;have HU:=Lib.hid (up_any HR2.out (j:=n) (by rw [HN1.out];omega) (by rw [HN1.out];omega)))
  | (go_at_call 99;refine HU.out.mono ?_;rintro e w4 ⟨rfl,hr,hb⟩;have HR4:=Lib.hid hr;have HB4:=Lib.hid (HB2.out.trans hb);clear hr hb))
 first | go_end0 | go_ret
 exact ⟨rfl,⟨_,HR4.out⟩,HB4.out⟩
theorem swapU_self (h:RmI ks rb V L nx uv us w) {i:Nat} (hi:i<us.length) (hl:us.length≤5000) :
  Calls Tryd.prog 143 #[.pointer (some ⟨rb,5,none⟩),.int .i64 i,.int .i64 i] w fun e w'=>e=.returned (.tuple #[])∧RmI ks rb V L nx uv (swU us i i) w'∧Below rb w w':=by
 obtain ⟨g,cap,rfl,hg,hgw⟩:=h.urow (by omega)
 have x5:w.cell? ⟨rb,5,none⟩=some (.slice (some ⟨g,0,none⟩) us.length cap):=h.box.cell 5
 obtain ⟨y0,y1,y2,f0,f1,f2⟩:=h.ucell hi
 have h1:=h.setU (u:=us.getD i u0) hi
 have hln:us.length=(us.set i (us.getD i u0)).length:=by rw [List.length_set]
 have h2:=h1
 rw [hln] at h2
 have h3:=h2.setU (u:=us.getD i u0) (show i<(us.set i (us.getD i u0)).length by rw [List.length_set];exact hi)
 rw [← hln] at h3
 have hsame:(us.set i (us.getD i u0)).set i (us.getD i u0)=us.set i (us.getD i u0):=by rw [List.set_set]
 rw [hsame] at h3
 have HR:=Lib.hid h3.drewN1
 have HB:Hid (Below rb w (setU (setU w rb g i (us.getD i u0)) rb g i (us.getD i u0)).drew):=Lib.hid ((below_setU (below_setU (Below.refl _ _) (by omega)) (by omega)).drew)
 obtain ⟨n,hn⟩:∃ n,n=us.length:=⟨_,rfl⟩
 obtain ⟨X,hX⟩:∃ p,p=us.getD i u0:=⟨_,rfl⟩
 have HSW:Hid (swU us i i=us.set i X):=Lib.hid (by rw [hX];unfold swU;rw [List.set_set])
 rw [← hX] at y0 y1 y2 HR HB
 rw [← hn] at x5 hl hi HR
 have HN:=Lib.hid hn
 have hrg:¬ rb=g:=by omega
 have hgr:¬ g=rb:=by omega
 unfold setU at HR HB
 clear h h1 h2 h3 hln hn hX hsame
 go_enter Tryd.func143,Tryd.ntmps143
 go_wp2
 go_region
 go_wp2
 first | go_end0 | go_ret
 exact ⟨rfl,by rw [HSW.out,← HN.out];exact HR.out,HB.out⟩
def popU (us:List U3):List U3:=downU us.length (swU us 0 (us.length-1)) 0 (us.length-1)
theorem hpop_any (h:RmI ks rb V L nx uv us w) {k:Nat} (hk:us.length=k+1) (hl:us.length≤5000) :
  Calls Tryd.prog 75 #[.iface 141 (.pointer (some ⟨rb,5,none⟩))] w fun e w'=>e=.returned (.iface 139 (.agg #[.int .i64 ((popU us).getD k u0).b,.int .i64 ((popU us).getD k u0).t,.pointer (some ⟨rb,((popU us).getD k u0).l,none⟩)]))∧(∃ uv',RmI ks rb V L nx uv' ((popU us).take k) w')∧Below rb w w':=by
 have hm1:=pop_m rb
 have hm2:=pop_n rb
 have hm3:=len_m rb
 have hm4:=len_n rb
 have hm5:=swap_m rb
 have hm6:=swap_n rb
 have hu0:0<us.length:=by omega
 have hsw:Calls Tryd.prog 143 #[.pointer (some ⟨rb,5,none⟩),.int .i64 0,.int .i64 k] w fun e w'=>e=.returned (.tuple #[])∧RmI ks rb V L nx uv (swU us 0 k) w'∧Below rb w w':=by
  by_cases h0:k=0
  ·subst h0
   exact swapU_self h hu0 hl
  ·exact swapU_any h (i:=0) (j:=k) hu0 (by omega) (by omega) hl
 have HPU:Hid (popU us=downU (k+1) (swU us 0 k) 0 k):=Lib.hid (by unfold popU;rw [hk];rfl)
 have HL:=Lib.hid (len_any h hl)
 have HSW:=Lib.hid hsw
 have HLN:Hid ((swU us 0 k).length=k+1):=Lib.hid (by rw [swU_len];exact hk)
 rw [hk] at HL hl
 have hki:((k:Int)+1)-1=k:=by omega
 clear h hsw hk hu0
 go_enter Tryd.func75,Tryd.ntmps75
 go_wp2_with (first
  | (go_at_call 74;refine HL.out.mono ?_;rintro e w1 ⟨rfl,rfl⟩)
  | (go_at_call 143;refine HSW.out.mono ?_;rintro e w2 ⟨rfl,hr,hb⟩;have HR2:=Lib.hid hr;have HB2:=Lib.hid hb;have HDN:=Lib.hid (down_any HR2.out (n:=k) (by rw [HLN.out];omega) (by rw [HLN.out];exact hl));rw [← HPU.out] at HDN;clear hr hb)
  | (go_at_call 98;refine HDN.out.mono ?_;rintro e w3 ⟨⟨b3,rfl⟩,hr,hb⟩;have HR3:=Lib.hid hr;have HB3:=Lib.hid (HB2.out.trans hb);have HEP:=Lib.hid (epop_any HR3.out (k:=k) (by rw [HPU.out,downU_len];exact HLN.out) (by rw [HPU.out,downU_len,HLN.out];exact hl));clear hr hb)
  | (go_at_call 141;refine HEP.out.mono ?_;rintro e w4 ⟨rfl,hr,hb⟩;have HR4:=Lib.hid hr;have HB4:=Lib.hid (HB3.out.trans hb);clear hr hb))
 first | go_end0 | go_ret
 exact ⟨rfl,HR4.out,HB4.out⟩
end
end Go.Proofs.YtepkogfiojkcpaaDoor
