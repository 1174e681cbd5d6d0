/-
  Texts of one seat, one behind the other: JNew, JLf0, JLf1, JTk, JMul, JRp, JAs.
-/
import Derived.Laws.BitsAllLaws
import Derived.Laws.CopyOwn
import Derived.Deep.DeepCutAuto
import Derived.Test.YtedmcfaghfgpoaaGreatDoorMA17
import Derived.Test.YtedmcfaghfgpoaaGreatDoorMA16

set_option linter.unusedVariables false
set_option linter.unusedSimpArgs false
set_option maxRecDepth 100000
set_option maxHeartbeats 51200000
namespace Go.Proofs.YtedmcfaghfgpoaaGreatDoor
open Go.ChangeShapes Go.WideShapes Go.ChangeAt Go.RowKit
def newL (i:Nat) (l:Nat):List Int:=if l=0 then (List.range i).map (fun k:Nat=>5-(k:Int)) else if l=1 then (List.range i).map (fun k:Nat=>11-(k:Int)) else []
theorem newL_step (i:Nat):upd (upd (newL i) 0 (newL i 0 ++ [5-(i:Int)])) 1 (newL i 1 ++ [11-(i:Int)])=newL (i+1):=by
 funext l
 by_cases h1:l=1
 ·subst h1
  rw [upd_at]
  simp [newL,List.range_succ]
 ·rw [upd_ne h1]
  by_cases h0:l=0
  ·subst h0
   rw [upd_at]
   simp [newL,List.range_succ]
  ·rw [upd_ne h0]
   simp [newL,h0,h1]
theorem newL_len (i l:Nat):(newL i l).length≤i:=by
 unfold newL
 split
 ·simp
 ·split
  ·simp
  ·simp
theorem rm_new {ks:Nat→Option Obj} (w:World) (hks:∀ g o,ks g=some o→w.heap[g]?=some o):RmI ks w.heap.size (fun _=>.slice none 0 0) (newL 0) 16 (.slice none 0 0) [] (w.alloc (.cells #[.slice none 0 0,.slice none 0 0,.slice none 0 0,.slice none 0 0,.int .i64 16,.slice none 0 0] 95)):=by
 refine ⟨Blk.new w _ _,fun l hl=>?_,fun l k _ _ _ g hg=>by simp [Value.ownBlock] at hg,own_none _ _ _ _,fun g o hk=>?_⟩
 rotate_left
 ·have h1:=hks g o hk
  obtain ⟨hlt,_⟩:=Array.getElem?_eq_some_iff.1 h1
  exact ⟨(((Below.refl w.heap.size w).alloc (Nat.le_refl _) _).block g hlt).trans h1,by omega,fun l hl=>by simp [Value.ownBlock],by simp [Value.ownBlock]⟩
 have e:newL 0 l=[]:=by simp [newL]
 rw [e]
 exact own_none _ _ _ _
theorem newRoom_any {ks:Nat→Option Obj} (w:World) (hks:∀ g o,ks g=some o→w.heap[g]?=some o) :
  Calls Tryz.prog 28 #[] w fun e w'=>e=.returned (.pointer (some ⟨w.heap.size,0,none⟩))∧(∃ V,RmI ks w.heap.size V (newL 6) 16 (.slice none 0 0) [] w')∧Below w.heap.size w w':=by
 have H0:Hid (RmI ks w.heap.size (fun _=>.slice none 0 0) (newL 0) 16 (.slice none 0 0) [] (w.alloc (.cells #[.slice none 0 0,.slice none 0 0,.slice none 0 0,.slice none 0 0,.int .i64 16,.slice none 0 0] 95))∧Below w.heap.size w (w.alloc (.cells #[.slice none 0 0,.slice none 0 0,.slice none 0 0,.slice none 0 0,.int .i64 16,.slice none 0 0] 95))):=Lib.hid ⟨rm_new w hks,(Below.refl _ _).alloc (Nat.le_refl _) _⟩
 go_enter Tryz.func28,Tryz.ntmps28
 go_wp2
 go_loopg [5] 6 (fun n s wr=>∃ i:Nat,s=.int .i64 i∧Hid (i+n=6)∧Hid (∃ V,RmI ks w.heap.size V (newL i) 16 (.slice none 0 0) [] wr∧Below w.heap.size w wr))
 case atStart=>exact ⟨0,rfl,Lib.hid rfl,Lib.hid ⟨_,H0.out.1,H0.out.2⟩⟩
 case round =>
  clear H0
  obtain ⟨i,rfl,HI,HX⟩:=hrel
  by_cases hi:i=6
  ·subst hi
   go_wp2
   first | go_end0 | go_ret
   obtain ⟨V,hr,hb⟩:=HX.out
   exact ⟨rfl,⟨V,hr⟩,hb⟩
  ·have hi6:i<6:=by have:=HI.out;omega
   obtain ⟨Va,hra,hba⟩:=HX.out
   obtain ⟨Aa,ca,hAca⟩:=own_slice (hra.own 0 (by decide))
   have hlena:((newL i) 0).length≤i:=newL_len i 0
   obtain ⟨xsa,hxsa⟩:∃ xs,xs=(newL i) 0:=⟨_,rfl⟩
   rw [← hxsa] at hlena hAca
   have x0a:∀ o,(wr.alloc o).cell? ⟨w.heap.size,0,none⟩=some (.slice Aa xsa.length ca):=fun o=>Lib.cell?_alloc_some o (by rw [(hra.lcell (l:=0) (by decide)).1,hAca])
   have xa:wr.cell? ⟨w.heap.size,0,none⟩=some (.slice Aa xsa.length ca):=by rw [(hra.lcell (l:=0) (by decide)).1,hAca]
   have HOAa:Hid (∀ o,(wr.alloc o).ownsRow (w.heap.size+1) 3 1 (.slice Aa xsa.length ca) xsa.length (i64c xsa)):=Lib.hid fun o=>by rw [← hAca,hxsa];exact own_alloc (hra.own 0 (by decide)) o
   have hrwa:w.heap.size<wr.heap.size:=hra.box.lt
   have HPUa:Hid (∀ (o:Obj) (v':Value) (w':World),w'.ownsRow (w.heap.size+1) 3 1 v' (xsa.length+1) (i64c xsa ++ [.int .i64 (5-(i:Int))])→(wr.alloc o).grownBy w' (Value.slice Aa xsa.length ca).ownBlock→(v'.ownBlock=(Value.slice Aa xsa.length ca).ownBlock∨v'.ownBlock=some (wr.alloc o).heap.size)→w'.frozen? ⟨w.heap.size,0,none⟩=false∧(∃ y,w'.cell? ⟨w.heap.size,0,none⟩=some y)∧Hid (RmI ks w.heap.size (upd Va 0 v') (upd ((newL i)) 0 (xsa ++ [5-(i:Int)])) 16 (.slice none 0 0) [] (w'.setCell ⟨w.heap.size,0,none⟩ v'))∧Hid (Below w.heap.size wr (w'.setCell ⟨w.heap.size,0,none⟩ v'))):=Lib.hid fun o v' w' h1 h2 h3=>by
    rw [hxsa] at h1 ⊢
    exact hra.pushL (l:=0) (by decide) (o:=o) h1 (by rw [hAca];exact h2) (by rw [hAca];exact h3)
   have HBa:=Lib.hid hba
   obtain ⟨na,hna⟩:∃ n,n=xsa.length:=⟨_,rfl⟩
   rw [← hna] at x0a xa hlena HOAa HPUa
   have HXSa:=Lib.hid hxsa
   clear hra hba hAca hna hxsa
   go_wp2_with (first
    | (at_builtin;refine app_int rfl _ _ rfl (w.heap.size+1) (.slice Aa na ca) na (i64c xsa) rfl (HOAa.out _) (wr.heap.size+1) (some ⟨wr.heap.size,0,none⟩) 1 1 [.int .i64 (5-(i:Int))] rfl (one_reads wr 3 [.int .i64 (5-(i:Int))] 1 rfl) (by simp [Value.oneCell']) (by omega) (by simp;omega) ?_;intro v8a w8a hown hgr hor;obtain ⟨A8a,c8a,rfl⟩:=own_slice hown;obtain ⟨e8a,⟨y8a,hy8a⟩,HR8a,HB8a⟩:=HPUa.out _ _ _ hown hgr hor;clear hown hgr hor;refine Hid.out ?_))
   have HX2:Hid (∃ V,RmI ks w.heap.size V (upd (newL i) 0 (newL i 0 ++ [5-(i:Int)])) 16 (.slice none 0 0) [] (w8a.setCell ⟨w.heap.size,0,none⟩ (.slice A8a (na+1) c8a))∧Below w.heap.size w (w8a.setCell ⟨w.heap.size,0,none⟩ (.slice A8a (na+1) c8a))):=Lib.hid ⟨_,HXSa.out ▸ HR8a.out,HBa.out.trans HB8a.out⟩
   clear HX x0a xa HOAa HPUa HBa HR8a HB8a hrwa
   obtain ⟨Vb,hrb,hbb⟩:=HX2.out
   obtain ⟨Ab,cb,hAcb⟩:=own_slice (hrb.own 1 (by decide))
   have hlenb:((upd (newL i) 0 (newL i 0 ++ [5-(i:Int)])) 1).length≤i:=(by rw [upd_ne (by decide)];exact newL_len i 1)
   obtain ⟨xsb,hxsb⟩:∃ xs,xs=(upd (newL i) 0 (newL i 0 ++ [5-(i:Int)])) 1:=⟨_,rfl⟩
   rw [← hxsb] at hlenb hAcb
   have x0b:∀ o,((w8a.setCell ⟨w.heap.size,0,none⟩ (.slice A8a (na+1) c8a)).alloc o).cell? ⟨w.heap.size,1,none⟩=some (.slice Ab xsb.length cb):=fun o=>Lib.cell?_alloc_some o (by rw [(hrb.lcell (l:=1) (by decide)).1,hAcb])
   have xb:(w8a.setCell ⟨w.heap.size,0,none⟩ (.slice A8a (na+1) c8a)).cell? ⟨w.heap.size,1,none⟩=some (.slice Ab xsb.length cb):=by rw [(hrb.lcell (l:=1) (by decide)).1,hAcb]
   have HOAb:Hid (∀ o,((w8a.setCell ⟨w.heap.size,0,none⟩ (.slice A8a (na+1) c8a)).alloc o).ownsRow (w.heap.size+1) 3 1 (.slice Ab xsb.length cb) xsb.length (i64c xsb)):=Lib.hid fun o=>by rw [← hAcb,hxsb];exact own_alloc (hrb.own 1 (by decide)) o
   have hrwb:w.heap.size<(w8a.setCell ⟨w.heap.size,0,none⟩ (.slice A8a (na+1) c8a)).heap.size:=hrb.box.lt
   have HPUb:Hid (∀ (o:Obj) (v':Value) (w':World),w'.ownsRow (w.heap.size+1) 3 1 v' (xsb.length+1) (i64c xsb ++ [.int .i64 (11-(i:Int))])→((w8a.setCell ⟨w.heap.size,0,none⟩ (.slice A8a (na+1) c8a)).alloc o).grownBy w' (Value.slice Ab xsb.length cb).ownBlock→(v'.ownBlock=(Value.slice Ab xsb.length cb).ownBlock∨v'.ownBlock=some ((w8a.setCell ⟨w.heap.size,0,none⟩ (.slice A8a (na+1) c8a)).alloc o).heap.size)→w'.frozen? ⟨w.heap.size,1,none⟩=false∧(∃ y,w'.cell? ⟨w.heap.size,1,none⟩=some y)∧Hid (RmI ks w.heap.size (upd Vb 1 v') (upd ((upd (newL i) 0 (newL i 0 ++ [5-(i:Int)]))) 1 (xsb ++ [11-(i:Int)])) 16 (.slice none 0 0) [] (w'.setCell ⟨w.heap.size,1,none⟩ v'))∧Hid (Below w.heap.size (w8a.setCell ⟨w.heap.size,0,none⟩ (.slice A8a (na+1) c8a)) (w'.setCell ⟨w.heap.size,1,none⟩ v'))):=Lib.hid fun o v' w' h1 h2 h3=>by
    rw [hxsb] at h1 ⊢
    exact hrb.pushL (l:=1) (by decide) (o:=o) h1 (by rw [hAcb];exact h2) (by rw [hAcb];exact h3)
   have HBb:=Lib.hid hbb
   obtain ⟨nb,hnb⟩:∃ n,n=xsb.length:=⟨_,rfl⟩
   rw [← hnb] at x0b xb hlenb HOAb HPUb
   have HXSb:=Lib.hid hxsb
   clear hrb hbb hAcb hnb hxsb
   have hszb:(w8a.setCell ⟨w.heap.size,0,none⟩ (.slice A8a (na+1) c8a)).heap.size=w8a.heap.size:=by simp
   have HRDb:Hid (Reads ((w8a.setCell ⟨w.heap.size,0,none⟩ (.slice A8a (na+1) c8a)).alloc (.cells #[.int .i64 (11-(i:Int))] 3)) (w8a.heap.size+1) 1 (some ⟨w8a.heap.size,0,none⟩) 1 [.int .i64 (11-(i:Int))]):=Lib.hid (by
    have h:=one_reads (w8a.setCell ⟨w.heap.size,0,none⟩ (.slice A8a (na+1) c8a)) 3 [.int .i64 (11-(i:Int))] 1 rfl
    rw [hszb] at h
    exact h)
   rw [hszb] at hrwb
   refine Lib.hid ?_
   go_wp2_with (first
    | (at_builtin;refine app_int rfl _ _ rfl (w.heap.size+1) (.slice Ab nb cb) nb (i64c xsb) rfl (HOAb.out _) (w8a.heap.size+1) (some ⟨w8a.heap.size,0,none⟩) 1 1 [.int .i64 (11-(i:Int))] rfl HRDb.out (by simp [Value.oneCell']) (by omega) (by simp;omega) ?_;intro v8b w8b hown hgr hor;obtain ⟨A8b,c8b,rfl⟩:=own_slice hown;obtain ⟨e8b,⟨y8b,hy8b⟩,HR8b,HB8b⟩:=HPUb.out _ _ _ hown hgr hor;clear hown hgr hor;refine Hid.out ?_))
   refine Lib.hid ?_
   go_wp2
   go_roundg (5-i)
   case measure=>have:=HI.out;omega
   case rel=>exact ⟨i+1,by simp,Lib.hid (by omega),Lib.hid ⟨_,by have h:=HR8b.out;rw [HXSb.out,upd_ne (by decide),newL_step] at h;exact h,HBb.out.trans HB8b.out⟩⟩
def lfT (held:Bool) (kd n0 n1:Nat):Nat:=if (held && kd == 1)=true then 2+kd else if (!held && decide (0<n0))=true then 0 else if 0<n1 then 1 else 2+kd
def lfN (held:Bool) (kd n0 n1 n2:Nat):Bool:=decide (lfT held kd n0 n1=2+kd) && decide (n2=0)
section
variable {ks:Nat→Option Obj} {rb:Nat} {V:Nat→Value} {L:Nat→List Int} {nx:Int} {uv:Value} {us:List U3} {w w':World}
theorem RmI.setN (h:RmI ks rb V L nx uv us w) (nx':Int):RmI ks rb V L nx' uv us (w.setCell ⟨rb,4,none⟩ (.int .i64 nx')) :=
 ⟨h.box.set_ 4 _,fun l hl=>own_far (h.own l hl) h.box (by decide) _ _,h.sep,own_far h.uses h.box (by decide) _ _,h.keep.set (p:=⟨rb,4,none⟩) (.inl rfl) _⟩
theorem RmI.lfR (h:RmI ks rb V L nx uv us w) (hnx:0≤nx∧nx≤1000000) {l:Nat} (hl:l<4) (h0:(L l).length=0) :
  ∃ A c,V l=.slice A 0 c∧(∀ o,(w.alloc o).ownsRow (rb+1) 3 1 (.slice A 0 c) 0 []) ∧
  ∀ (o:Obj) (v':Value) (w':World),w'.ownsRow (rb+1) 3 1 v' 1 [.int .i64 nx]→(w.alloc o).grownBy w' (Value.slice A 0 c).ownBlock→(v'.ownBlock=(Value.slice A 0 c).ownBlock∨v'.ownBlock=some (w.alloc o).heap.size) →
   w'.frozen? ⟨rb,l,none⟩=false∧(∃ y,w'.cell? ⟨rb,l,none⟩=some y)∧(w'.setCell ⟨rb,l,none⟩ v').cell? ⟨rb,4,none⟩=some (.int .i64 nx)∧(w'.setCell ⟨rb,l,none⟩ v').frozen? ⟨rb,4,none⟩=false ∧
   Hid (∃ V',RmI ks rb V' (upd L l [nx]) (nx+1) uv us ((w'.setCell ⟨rb,l,none⟩ v').setCell ⟨rb,4,none⟩ (.int .i64 (nx+1))))∧Hid (Below rb w ((w'.setCell ⟨rb,l,none⟩ v').setCell ⟨rb,4,none⟩ (.int .i64 (nx+1)))):=by
 have he:L l=[]:=List.length_eq_zero_iff.1 h0
 obtain ⟨A,c,hv⟩:=own_slice (h.own l hl)
 rw [h0] at hv
 have ho:=h.own l hl
 rw [he,hv] at ho
 refine ⟨A,c,hv,fun o=>own_alloc ho o,fun o v' w' h1 h2 h3=>?_⟩
 obtain ⟨g1,g2,g3,g4⟩:=h.pushL hl (x:=nx) (o:=o) (v':=v') (w':=w') (by rw [he];exact h1) (by rw [hv];exact h2) (by rw [hv];exact h3)
 have g3:=g3.out
 rw [he,List.nil_append] at g3
 exact ⟨g1,g2,g3.box.cell 4,g3.box.frozen 4,Lib.hid ⟨_,g3.setN (nx+1)⟩,Lib.hid (g4.out.setCell (p:=⟨rb,4,none⟩) (Nat.le_refl _) _)⟩
end
section
variable {ks:Nat→Option Obj} {rb:Nat} {V:Nat→Value} {L:Nat→List Int} {nx:Int} {uv:Value} {us:List U3} {w w':World}
theorem lf0_any (held:Bool) (h:RmI ks rb V L nx uv us w) (hnx:0≤nx∧nx≤1000000) :
  Calls Tryz.prog 55 #[.pointer (some ⟨rb,0,none⟩),.bool held,.int .u8 0] w fun e w'=>e=.returned (.pointer (some ⟨rb,lfT held 0 (L 0).length (L 1).length,none⟩))∧(∃ V',RmI ks rb V' (if lfN held 0 (L 0).length (L 1).length (L 2).length=true then upd L 2 [nx] else L) (if lfN held 0 (L 0).length (L 1).length (L 2).length=true then nx+1 else nx) uv us w')∧Below rb w w':=by
 obtain ⟨A0,c0,hA0⟩:=own_slice (h.own 0 (by decide))
 obtain ⟨A1,c1,hA1⟩:=own_slice (h.own 1 (by decide))
 obtain ⟨A2,c2,hA2⟩:=own_slice (h.own 2 (by decide))
 have x0:w.cell? ⟨rb,0,none⟩=some (.slice A0 (L 0).length c0):=by rw [(h.lcell (l:=0) (by decide)).1,hA0]
 have x1:w.cell? ⟨rb,1,none⟩=some (.slice A1 (L 1).length c1):=by rw [(h.lcell (l:=1) (by decide)).1,hA1]
 have x2:w.cell? ⟨rb,2,none⟩=some (.slice A2 (L 2).length c2):=by rw [(h.lcell (l:=2) (by decide)).1,hA2]
 have HLF:Hid ((L 2).length=0→_):=Lib.hid fun h0=>h.lfR hnx (l:=2) (by decide) h0
 obtain ⟨n0,hn0⟩:∃ n,n=(L 0).length:=⟨_,rfl⟩
 obtain ⟨n1,hn1⟩:∃ n,n=(L 1).length:=⟨_,rfl⟩
 obtain ⟨n2,hn2⟩:∃ n,n=(L 2).length:=⟨_,rfl⟩
 rw [← hn0] at x0 ⊢
 rw [← hn1] at x1 ⊢
 rw [← hn2] at x2 HLF ⊢
 have x4:w.cell? ⟨rb,4,none⟩=some (.int .i64 nx):=h.box.cell 4
 have x4a:∀ o,(w.alloc o).cell? ⟨rb,4,none⟩=some (.int .i64 nx):=fun o=>(h.box.alloc o).cell 4
 have hrw:rb<w.heap.size:=h.box.lt
 have H:=Lib.hid h
 have HV:=Lib.hid hA2
 rw [← hn2] at HV
 clear h hA0 hA1 hA2 hn0 hn1 hn2
 have hD:∀ n:Nat,n=0∨0<n:=fun n=>by omega
 obtain ⟨T,hT⟩:∃ T,T=lfT held 0 n0 n1:=⟨_,rfl⟩
 obtain ⟨L',hL'⟩:∃ L',L'=if lfN held 0 n0 n1 n2=true then upd L 2 [nx] else L:=⟨_,rfl⟩
 obtain ⟨nx',hnx'⟩:∃ nx',nx'=if lfN held 0 n0 n1 n2=true then nx+1 else nx:=⟨_,rfl⟩
 rw [← hT,← hL',← hnx']
 by_cases hP:lfT held 0 n0 n1=2
 ·-- a slot
  by_cases h2:n2=0
  ·subst h2
   have HE:Hid (T=2∧L'=upd L 2 [nx]∧nx'=nx+1):=Lib.hid (by
    have e:lfN held 0 n0 n1 0=true:=by simp [lfN,hP]
    rw [e] at hL' hnx'
    exact ⟨hT.trans hP,hL',hnx'⟩)
   clear hT hL' hnx'
   obtain ⟨A,c,hv,hoa,hpu⟩:=HLF.out rfl
   have HOA:=Lib.hid hoa
   have HPU:=Lib.hid hpu
   rw [HV.out] at hv
   injection hv with e1 e2 e3
   subst e1 e3
   have x2a:∀ o,(w.alloc o).cell? ⟨rb,2,none⟩=some (.slice A2 0 c2):=fun o=>Lib.cell?_alloc_some o x2
   clear HLF HV hoa hpu e2
   go_enter Tryz.func55,Tryz.ntmps55
   have hn1:n1=0:=by
    rcases hD n1 with e1 | e1
    ·exact e1
    ·exfalso
     cases held with
     | true=>simp [lfT,e1] at hP
     | false =>
      rcases hD n0 with e0 | e0
      ·simp [lfT,e1,e0] at hP
      ·simp [lfT,e0] at hP
   subst hn1
   have hn0:held=false→n0=0:=fun hf=>by
    subst hf
    rcases hD n0 with e0 | e0
    ·exact e0
    ·exfalso;simp [lfT,e0] at hP
   cases held
   all_goals first | (have e0:=hn0 rfl;subst e0) | clear hn0
   all_goals
    clear hP
    go_upto_region 8 with fail
    go_region_law (first
     | (refine step_int rfl _ _ rfl (rb+1) (.slice A2 0 c2) 0 [] rfl (HOA.out _) (w.heap.size+1) (some ⟨w.heap.size,0,none⟩) 1 1 [.int .i64 nx] rfl (one_reads w 3 [.int .i64 nx] 1 rfl) (by simp [Value.oneCell']) (by omega) (by simp;omega) ?_;intro v8 w8 hown hgr hor;rw [Nat.zero_add,List.nil_append] at hown;obtain ⟨A8,c8,rfl⟩:=own_slice hown;obtain ⟨e8,⟨y8,hy8⟩,y4,f4,HR8,HB8⟩:=HPU.out _ _ _ hown (grown_of_drew hgr) hor;clear hown hgr hor))
   all_goals
    go_wp2
    first | go_end0 | go_ret
    rw [HE.out.1,HE.out.2.1,HE.out.2.2]
    exact ⟨rfl,HR8.out,HB8.out⟩
  ·have HE:Hid (T=2∧L'=L∧nx'=nx):=Lib.hid (by
    have e:lfN held 0 n0 n1 n2=false:=by simp [lfN,h2]
    rw [e] at hL' hnx'
    exact ⟨hT.trans hP,hL',hnx'⟩)
   clear hT hL' hnx'
   have hD2:0<n2:=by omega
   clear HLF HV
   go_enter Tryz.func55,Tryz.ntmps55
   have hn1:n1=0:=by
    rcases hD n1 with e1 | e1
    ·exact e1
    ·exfalso
     cases held with
     | true=>simp [lfT,e1] at hP
     | false =>
      rcases hD n0 with e0 | e0
      ·simp [lfT,e1,e0] at hP
      ·simp [lfT,e0] at hP
   subst hn1
   have hn0:held=false→n0=0:=fun hf=>by
    subst hf
    rcases hD n0 with e0 | e0
    ·exact e0
    ·exfalso;simp [lfT,e0] at hP
   cases held
   all_goals first | (have e0:=hn0 rfl;subst e0) | clear hn0
   all_goals
    clear hP
    go_wp2
    first | go_end0 | go_ret
    rw [HE.out.1,HE.out.2.1,HE.out.2.2]
    exact ⟨rfl,⟨_,H.out⟩,Below.refl _ _⟩
 ·by_cases h0:held=false∧0<n0
  ·obtain ⟨rfl,hn0⟩:=h0
   have HE:Hid (T=0∧L'=L∧nx'=nx):=Lib.hid (by
    have e:lfT false 0 n0 n1=0:=by simp [lfT,hn0]
    have e2:lfN false 0 n0 n1 n2=false:=by simp [lfN,e]
    rw [e2] at hL' hnx'
    exact ⟨hT.trans e,hL',hnx'⟩)
   clear hT hL' hnx'
   clear HLF HV hP
   go_enter Tryz.func55,Tryz.ntmps55
   go_wp2
   first | go_end0 | go_ret
   rw [HE.out.1,HE.out.2.1,HE.out.2.2]
   exact ⟨rfl,⟨_,H.out⟩,Below.refl _ _⟩
  ·have hn1:0<n1:=by
    rcases hD n1 with e | e
    ·exfalso
     apply hP
     cases held with
     | true=>simp [lfT,e]
     | false =>
      rcases hD n0 with e0 | e0
      ·simp [lfT,e,e0]
      ·exact (h0 ⟨rfl,e0⟩).elim
    ·exact e
   have HE:Hid (T=1∧L'=L∧nx'=nx):=Lib.hid (by
    have e:lfT held 0 n0 n1=1:=by
     cases held with
     | true=>simp [lfT,hn1]
     | false =>
      rcases hD n0 with e0 | e0
      ·simp [lfT,hn1,e0]
      ·exact (h0 ⟨rfl,e0⟩).elim
    have e2:lfN held 0 n0 n1 n2=false:=by simp [lfN,e]
    rw [e2] at hL' hnx'
    exact ⟨hT.trans e,hL',hnx'⟩)
   clear HLF HV hT hL' hnx'
   cases held with
   | true =>
    clear hP h0
    go_enter Tryz.func55,Tryz.ntmps55
    go_wp2
    first | go_end0 | go_ret
    rw [HE.out.1,HE.out.2.1,HE.out.2.2]
    exact ⟨rfl,⟨_,H.out⟩,Below.refl _ _⟩
   | false =>
    rcases hD n0 with e0 | e0
    ·subst e0
     clear hP h0
     go_enter Tryz.func55,Tryz.ntmps55
     go_wp2
     first | go_end0 | go_ret
     rw [HE.out.1,HE.out.2.1,HE.out.2.2]
     exact ⟨rfl,⟨_,H.out⟩,Below.refl _ _⟩
    ·exact (h0 ⟨rfl,e0⟩).elim
end
section
variable {ks:Nat→Option Obj} {rb:Nat} {V:Nat→Value} {L:Nat→List Int} {nx:Int} {uv:Value} {us:List U3} {w w':World}
theorem lf1_any (held:Bool) (h:RmI ks rb V L nx uv us w) (hnx:0≤nx∧nx≤1000000) :
  Calls Tryz.prog 55 #[.pointer (some ⟨rb,0,none⟩),.bool held,.int .u8 1] w fun e w'=>e=.returned (.pointer (some ⟨rb,lfT held 1 (L 0).length (L 1).length,none⟩))∧(∃ V',RmI ks rb V' (if lfN held 1 (L 0).length (L 1).length (L 3).length=true then upd L 3 [nx] else L) (if lfN held 1 (L 0).length (L 1).length (L 3).length=true then nx+1 else nx) uv us w')∧Below rb w w':=by
 obtain ⟨A0,c0,hA0⟩:=own_slice (h.own 0 (by decide))
 obtain ⟨A1,c1,hA1⟩:=own_slice (h.own 1 (by decide))
 obtain ⟨A2,c2,hA2⟩:=own_slice (h.own 3 (by decide))
 have x0:w.cell? ⟨rb,0,none⟩=some (.slice A0 (L 0).length c0):=by rw [(h.lcell (l:=0) (by decide)).1,hA0]
 have x1:w.cell? ⟨rb,1,none⟩=some (.slice A1 (L 1).length c1):=by rw [(h.lcell (l:=1) (by decide)).1,hA1]
 have x2:w.cell? ⟨rb,3,none⟩=some (.slice A2 (L 3).length c2):=by rw [(h.lcell (l:=3) (by decide)).1,hA2]
 have HLF:Hid ((L 3).length=0→_):=Lib.hid fun h0=>h.lfR hnx (l:=3) (by decide) h0
 obtain ⟨n0,hn0⟩:∃ n,n=(L 0).length:=⟨_,rfl⟩
 obtain ⟨n1,hn1⟩:∃ n,n=(L 1).length:=⟨_,rfl⟩
 obtain ⟨n2,hn2⟩:∃ n,n=(L 3).length:=⟨_,rfl⟩
 rw [← hn0] at x0 ⊢
 rw [← hn1] at x1 ⊢
 rw [← hn2] at x2 HLF ⊢
 have x4:w.cell? ⟨rb,4,none⟩=some (.int .i64 nx):=h.box.cell 4
 have x4a:∀ o,(w.alloc o).cell? ⟨rb,4,none⟩=some (.int .i64 nx):=fun o=>(h.box.alloc o).cell 4
 have hrw:rb<w.heap.size:=h.box.lt
 have H:=Lib.hid h
 have HV:=Lib.hid hA2
 rw [← hn2] at HV
 clear h hA0 hA1 hA2 hn0 hn1 hn2
 have hD:∀ n:Nat,n=0∨0<n:=fun n=>by omega
 obtain ⟨T,hT⟩:∃ T,T=lfT held 1 n0 n1:=⟨_,rfl⟩
 obtain ⟨L',hL'⟩:∃ L',L'=if lfN held 1 n0 n1 n2=true then upd L 3 [nx] else L:=⟨_,rfl⟩
 obtain ⟨nx',hnx'⟩:∃ nx',nx'=if lfN held 1 n0 n1 n2=true then nx+1 else nx:=⟨_,rfl⟩
 rw [← hT,← hL',← hnx']
 by_cases hP:lfT held 1 n0 n1=3
 ·-- a slot
  by_cases h2:n2=0
  ·subst h2
   have HE:Hid (T=3∧L'=upd L 3 [nx]∧nx'=nx+1):=Lib.hid (by
    have e:lfN held 1 n0 n1 0=true:=by simp [lfN,hP]
    rw [e] at hL' hnx'
    exact ⟨hT.trans hP,hL',hnx'⟩)
   clear hT hL' hnx'
   obtain ⟨A,c,hv,hoa,hpu⟩:=HLF.out rfl
   have HOA:=Lib.hid hoa
   have HPU:=Lib.hid hpu
   rw [HV.out] at hv
   injection hv with e1 e2 e3
   subst e1 e3
   have x2a:∀ o,(w.alloc o).cell? ⟨rb,3,none⟩=some (.slice A2 0 c2):=fun o=>Lib.cell?_alloc_some o x2
   clear HLF HV hoa hpu e2
   go_enter Tryz.func55,Tryz.ntmps55
   have hn1:held=false→n1=0:=fun hf=>by
    subst hf
    rcases hD n1 with e1 | e1
    ·exact e1
    ·exfalso
     rcases hD n0 with e0 | e0
     ·simp [lfT,e1,e0] at hP
     ·simp [lfT,e0] at hP
   have hn0:held=false→n0=0:=fun hf=>by
    subst hf
    rcases hD n0 with e0 | e0
    ·exact e0
    ·exfalso;simp [lfT,e0] at hP
   cases held
   all_goals first | (have e0:=hn0 rfl;have e1:=hn1 rfl;subst e0;subst e1) | clear hn0 hn1
   all_goals
    clear hP
    go_upto_region 8 with fail
    go_region_law (first
     | (refine step_int rfl _ _ rfl (rb+1) (.slice A2 0 c2) 0 [] rfl (HOA.out _) (w.heap.size+1) (some ⟨w.heap.size,0,none⟩) 1 1 [.int .i64 nx] rfl (one_reads w 3 [.int .i64 nx] 1 rfl) (by simp [Value.oneCell']) (by omega) (by simp;omega) ?_;intro v8 w8 hown hgr hor;rw [Nat.zero_add,List.nil_append] at hown;obtain ⟨A8,c8,rfl⟩:=own_slice hown;obtain ⟨e8,⟨y8,hy8⟩,y4,f4,HR8,HB8⟩:=HPU.out _ _ _ hown (grown_of_drew hgr) hor;clear hown hgr hor))
   all_goals
    go_wp2
    first | go_end0 | go_ret
    rw [HE.out.1,HE.out.2.1,HE.out.2.2]
    exact ⟨rfl,HR8.out,HB8.out⟩
  ·have HE:Hid (T=3∧L'=L∧nx'=nx):=Lib.hid (by
    have e:lfN held 1 n0 n1 n2=false:=by simp [lfN,h2]
    rw [e] at hL' hnx'
    exact ⟨hT.trans hP,hL',hnx'⟩)
   clear hT hL' hnx'
   have hD2:0<n2:=by omega
   clear HLF HV
   go_enter Tryz.func55,Tryz.ntmps55
   have hn1:held=false→n1=0:=fun hf=>by
    subst hf
    rcases hD n1 with e1 | e1
    ·exact e1
    ·exfalso
     rcases hD n0 with e0 | e0
     ·simp [lfT,e1,e0] at hP
     ·simp [lfT,e0] at hP
   have hn0:held=false→n0=0:=fun hf=>by
    subst hf
    rcases hD n0 with e0 | e0
    ·exact e0
    ·exfalso;simp [lfT,e0] at hP
   cases held
   all_goals first | (have e0:=hn0 rfl;have e1:=hn1 rfl;subst e0;subst e1) | clear hn0 hn1
   all_goals
    clear hP
    go_wp2
    first | go_end0 | go_ret
    rw [HE.out.1,HE.out.2.1,HE.out.2.2]
    exact ⟨rfl,⟨_,H.out⟩,Below.refl _ _⟩
 ·by_cases h0:held=false∧0<n0
  ·obtain ⟨rfl,hn0⟩:=h0
   have HE:Hid (T=0∧L'=L∧nx'=nx):=Lib.hid (by
    have e:lfT false 1 n0 n1=0:=by simp [lfT,hn0]
    have e2:lfN false 1 n0 n1 n2=false:=by simp [lfN,e]
    rw [e2] at hL' hnx'
    exact ⟨hT.trans e,hL',hnx'⟩)
   clear hT hL' hnx'
   clear HLF HV hP
   go_enter Tryz.func55,Tryz.ntmps55
   go_wp2
   first | go_end0 | go_ret
   rw [HE.out.1,HE.out.2.1,HE.out.2.2]
   exact ⟨rfl,⟨_,H.out⟩,Below.refl _ _⟩
  ·have hn1:0<n1:=by
    rcases hD n1 with e | e
    ·exfalso
     apply hP
     cases held with
     | true=>simp [lfT,e]
     | false =>
      rcases hD n0 with e0 | e0
      ·simp [lfT,e,e0]
      ·exact (h0 ⟨rfl,e0⟩).elim
    ·exact e
   have HE:Hid (T=1∧L'=L∧nx'=nx):=Lib.hid (by
    have e:lfT held 1 n0 n1=1:=by
     cases held with
     | true=>exact (hP (by simp [lfT])).elim
     | false =>
      rcases hD n0 with e0 | e0
      ·simp [lfT,hn1,e0]
      ·exact (h0 ⟨rfl,e0⟩).elim
    have e2:lfN held 1 n0 n1 n2=false:=by simp [lfN,e]
    rw [e2] at hL' hnx'
    exact ⟨hT.trans e,hL',hnx'⟩)
   clear HLF HV hT hL' hnx'
   cases held with
   | true =>
    exact (hP (by simp [lfT])).elim
   | false =>
    rcases hD n0 with e0 | e0
    ·subst e0
     clear hP h0
     go_enter Tryz.func55,Tryz.ntmps55
     go_wp2
     first | go_end0 | go_ret
     rw [HE.out.1,HE.out.2.1,HE.out.2.2]
     exact ⟨rfl,⟨_,H.out⟩,Below.refl _ _⟩
    ·exact (h0 ⟨rfl,e0⟩).elim
end
def lfL (held:Bool) (kd:Nat) (L:Nat→List Int) (nx:Int):Nat→List Int:=if lfN held kd (L 0).length (L 1).length (L (2+kd)).length=true then upd L (2+kd) [nx] else L
def lfX (held:Bool) (kd:Nat) (L:Nat→List Int) (nx:Int):Int:=if lfN held kd (L 0).length (L 1).length (L (2+kd)).length=true then nx+1 else nx
def lfI (held:Bool) (kd:Nat) (L:Nat→List Int):Nat:=lfT held kd (L 0).length (L 1).length
theorem lfI_lt {held:Bool} {kd:Nat} {L:Nat→List Int} (hk:kd<2):lfI held kd L<4:=by
 unfold lfI lfT
 split
 ·omega
 ·split
  ·omega
  ·split <;> omega
theorem lfL_ne {held:Bool} {kd:Nat} {L:Nat→List Int} {nx:Int}:0<(lfL held kd L nx (lfI held kd L)).length:=by
 unfold lfL
 by_cases hn:lfN held kd (L 0).length (L 1).length (L (2+kd)).length=true
 ·rw [if_pos hn]
  simp only [lfN,Bool.and_eq_true,decide_eq_true_eq] at hn
  unfold lfI
  rw [hn.1,upd_at]
  simp
 ·rw [if_neg hn]
  simp only [lfN,Bool.and_eq_true,decide_eq_true_eq,not_and] at hn
  unfold lfI
  by_cases e:lfT held kd (L 0).length (L 1).length=2+kd
  ·have:=hn e
   rw [e]
   omega
  ·unfold lfT at e ⊢
   split
   ·rename_i h1
    rw [if_pos h1] at e
    exact (e rfl).elim
   ·rename_i h1
    rw [if_neg h1] at e
    split
    ·rename_i h2
     simp only [Bool.and_eq_true,decide_eq_true_eq] at h2
     exact h2.2
    ·rename_i h2
     rw [if_neg h2] at e
     split
     ·rename_i h3
      exact h3
     ·rename_i h3
      rw [if_neg h3] at e
      exact (e rfl).elim
section
variable {ks:Nat→Option Obj} {rb:Nat} {V:Nat→Value} {L:Nat→List Int} {nx:Int} {uv:Value} {us:List U3} {w w':World}
theorem lf_any (held:Bool) {kd:Nat} (hk:kd<2) (h:RmI ks rb V L nx uv us w) (hnx:0≤nx∧nx≤1000000) :
  Calls Tryz.prog 55 #[.pointer (some ⟨rb,0,none⟩),.bool held,.int .u8 kd] w fun e w'=>e=.returned (.pointer (some ⟨rb,lfI held kd L,none⟩))∧(∃ V',RmI ks rb V' (lfL held kd L nx) (lfX held kd L nx) uv us w')∧Below rb w w':=by
 rcases (by omega:kd=0∨kd=1) with rfl | rfl
 ·exact lf0_any held h hnx
 ·exact lf1_any held h hnx
def addK (ks:Nat→Option Obj) (p:Nat) (o:Obj):Nat→Option Obj:=fun g=>if g=p then some o else ks g
theorem addK_at (ks:Nat→Option Obj) (p:Nat) (o:Obj):addK ks p o p=some o:=by simp [addK]
theorem RmI.guard (h:RmI ks rb V L nx uv us w) (o:Obj):RmI (addK ks w.heap.size o) rb V L nx uv us (w.alloc o):=by
 have h1:=h.on ((Below.refl w.heap.size w).alloc (Nat.le_refl _) o)
 refine ⟨h1.box,h1.own,h1.sep,h1.uses,fun g o' hk=>?_⟩
 by_cases e:g=w.heap.size
 ·subst e
  rw [addK_at] at hk
  injection hk with hk
  subst hk
  have hb:=h.box.lt
  refine ⟨heap_alloc_new w _,by omega,fun l hl hv=>?_,fun hv=>?_⟩
  ·have:=(own_block_le (h.own l hl) hv).2
   omega
  ·have:=(own_block_le h.uses hv).2
   omega
 ·unfold addK at hk
  rw [if_neg e] at hk
  exact h1.keep g o' hk
theorem RmI.forget {p:Nat} {o:Obj} (h:RmI (addK ks p o) rb V L nx uv us w) (hp:ks p=none):RmI ks rb V L nx uv us w :=
 ⟨h.box,h.own,h.sep,h.uses,fun g o' hk=>h.keep g o' (by
  unfold addK
  rw [if_neg (fun e=>by rw [e,hp] at hk;cases hk)]
  exact hk)⟩
theorem Kp.none (h:Kp ks rb V uv w) {g:Nat} (hg:w.heap.size≤g):ks g=.none:=by
 cases e:ks g with
 | none=>rfl
 | some o=>exact absurd (h.lt e) (by omega)
theorem RmI.guarded {p:Nat} {cs:Array Value} {t:TypeId} (h:RmI (addK ks p (.cells cs t)) rb V L nx uv us w):Blk w p t cs:=(h.keep p _ (addK_at _ _ _)).1
theorem RmI.sub {ks':Nat→Option Obj} (h:RmI ks' rb V L nx uv us w) (hs:∀ g o,ks g=some o→ks' g=some o):RmI ks rb V L nx uv us w :=
 ⟨h.box,h.own,h.sep,h.uses,fun g o hk=>h.keep g o (hs g o hk)⟩
theorem addK_sub {q p:Nat} {o1 o2:Obj} (hq:ks q=none):∀ g o,addK ks p o2 g=some o→addK (addK ks q o1) p o2 g=some o:=fun g o hk=>by
 unfold addK at hk ⊢
 by_cases e:g=p
 ·rw [if_pos e] at hk ⊢
  exact hk
 ·rw [if_neg e] at hk ⊢
  rw [if_neg (fun e2=>by rw [e2,hq] at hk;cases hk)]
  exact hk
theorem RmI.guarded2 {q p:Nat} {o:Obj} {cs:Array Value} {t:TypeId} (h:RmI (addK (addK ks q (.cells cs t)) p o) rb V L nx uv us w) (hqp:q≠p):Blk w q t cs:=(h.keep q _ (by unfold addK;rw [if_neg hqp,if_pos rfl])).1
theorem RmI.gset {p:Nat} {cs:Array Value} {t:TypeId} (h:RmI (addK ks p (.cells cs t)) rb V L nx uv us w) (i:Nat) (u:Value):RmI (addK ks p (.cells (cs.setIfInBounds i u) t)) rb V L nx uv us (w.setCell ⟨p,i,none⟩ u):=by
 have hb:=h.guarded
 obtain ⟨_,k2,k3,k4⟩:=h.keep p _ (addK_at _ _ _)
 have hf:∀ g,g≠p→(w.setCell ⟨p,i,none⟩ u).heap[g]?=w.heap[g]?:=fun g hg=>Below.heap_setCell w ⟨p,i,none⟩ u g hg
 refine ⟨h.box.far (p:=⟨p,i,none⟩) (fun e=>k2 e.symm) u,fun l hl=>own_kept (h.own l hl) fun g hg=>hf g (fun e=>k3 l hl (by rw [hg,e])),h.sep,own_kept h.uses fun g hg=>hf g (fun e=>k4 (by rw [hg,e])),fun g o hk=>?_⟩
 by_cases e:g=p
 ·subst e
  rw [addK_at] at hk
  injection hk with hk
  subst hk
  exact ⟨hb.set_ i u,k2,k3,k4⟩
 ·obtain ⟨a1,a2,a3,a4⟩:=h.keep g o (by unfold addK at hk ⊢;rw [if_neg e] at hk ⊢;exact hk)
  exact ⟨(hf g e).trans a1,a2,a3,a4⟩
def tkU (us:List U3) (u:U3):List U3:=upU (us.length+1) (us ++ [u]) us.length
theorem take_any (held:Bool) {kd:Nat} (hk:kd<2) (pl fr te:Int) (h:RmI ks rb V L nx uv us w) (hnx:0≤nx∧nx≤1000000) (hus:us.length≤4000) (hL:∀ l,l<4→(lfL held kd L nx l).length≤5000) {k:Nat} (hkk:(lfL held kd L nx (lfI held kd L)).length=k+1) :
  Calls Tryz.prog 30 #[.pointer (some ⟨rb,0,none⟩),.agg #[.int .i64 pl,.int .i64 fr,.int .i64 te,.bool held],.int .u8 kd] w fun e w'=>e=.returned (.int .i64 ((lfL held kd L nx (lfI held kd L)).getD k 0))∧(∃ V' uv',RmI ks rb V' (upd (lfL held kd L nx) (lfI held kd L) ((lfL held kd L nx (lfI held kd L)).take k)) (lfX held kd L nx) uv' (tkU us ⟨(lfL held kd L nx (lfI held kd L)).getD k 0,te,lfI held kd L⟩) w')∧Below rb w w':=by
 have hwn:=h.keep.none (Nat.le_refl w.heap.size)
 have hg:=h.guard (.cells #[.int .i64 pl,.int .i64 fr,.int .i64 te,.bool held] 56)
 have HLF:=Lib.hid (lf_any held hk hg hnx)
 have HB0:Hid (Below rb w (w.alloc (.cells #[.int .i64 pl,.int .i64 fr,.int .i64 te,.bool held] 56))):=Lib.hid ((Below.refl _ _).alloc (Nat.le_of_lt h.box.lt) _)
 obtain ⟨T,hT⟩:∃ T,T=lfI held kd L:=⟨_,rfl⟩
 have hT4:T<4:=by rw [hT];exact lfI_lt hk
 obtain ⟨L1,hL1⟩:∃ L1,L1=lfL held kd L nx:=⟨_,rfl⟩
 obtain ⟨nx1,hnx1⟩:∃ nx1,nx1=lfX held kd L nx:=⟨_,rfl⟩
 rw [← hT,← hL1] at hkk ⊢
 rw [← hnx1]
 rw [← hT,← hL1,← hnx1] at HLF
 rw [← hL1] at hL
 obtain ⟨b,hb⟩:∃ b,b=(L1 T).getD k 0:=⟨_,rfl⟩
 have HBB:=Lib.hid hb
 rw [← hb]
 obtain ⟨kdi,hkd⟩:∃ kdi:Int,kdi=kd:=⟨_,rfl⟩
 rw [← hkd] at HLF ⊢
 have HWN:=Lib.hid hwn
 have HWP:Hid (∀ p,w.heap.size≤p→ks p=none):=Lib.hid fun p hp=>h.keep.none hp
 have hLT:=hL T hT4
 have HKK:=Lib.hid hkk
 clear h hg hT hL1 hnx1 hb hwn hkd hL
 go_enter Tryz.func30,Tryz.ntmps30
 go_wp2_with (go_at_call 55;refine HLF.out.mono ?_;rintro e w2 ⟨rfl,⟨V2,hr2⟩,hb2⟩;have HR2:=Lib.hid hr2;have HB2:=Lib.hid (HB0.out.trans hb2);have y2:w2.cell? ⟨w.heap.size,2,none⟩=some (.int .i64 te):=hr2.guarded.cell 2;clear hr2 hb2;refine Hid.out ?_)
 refine Lib.hid ?_
 go_upto_region 2 with fail
 have HQ2:Hid (w.heap.size<w2.heap.size):=Lib.hid HR2.out.guarded.lt
 have hT4':=hT4
 have hsz2:rb<w2.heap.size:=HR2.out.box.lt
 have HTK:Hid (∀ W,RmI (addK ks w.heap.size (.cells #[.int .i64 pl,.int .i64 fr,.int .i64 te,.bool held] 56)) rb V2 L1 nx1 uv us W→Calls Tryz.prog 56 #[.pointer (some ⟨rb,T,none⟩)] W fun e w'=>e=.returned (.int .i64 b)∧(∃ V',RmI (addK ks w.heap.size (.cells #[.int .i64 pl,.int .i64 fr,.int .i64 te,.bool held] 56)) rb V' (upd L1 T ((L1 T).take k)) nx1 uv us w')∧Below rb W w'):=Lib.hid fun W hW=>by rw [HBB.out];exact takeI_any hW hT4 HKK.out hLT
 have HTKa:Hid (∀ W o,RmI (addK (addK ks w.heap.size (.cells #[.int .i64 pl,.int .i64 fr,.int .i64 te,.bool held] 56)) w2.heap.size o) rb V2 L1 nx1 uv us W→Calls Tryz.prog 56 #[.pointer (some ⟨rb,T,none⟩)] W fun e w'=>e=.returned (.int .i64 b)∧(∃ V',RmI (addK (addK ks w.heap.size (.cells #[.int .i64 pl,.int .i64 fr,.int .i64 te,.bool held] 56)) w2.heap.size o) rb V' (upd L1 T ((L1 T).take k)) nx1 uv us w')∧Below rb W w'):=Lib.hid fun W o hW=>by rw [HBB.out];exact takeI_any hW hT4 HKK.out hLT
 have y2a:∀ o,(w2.alloc o).cell? ⟨w.heap.size,2,none⟩=some (.int .i64 te):=fun o=>Lib.cell?_alloc_some o y2
 have HRD:Hid (RmI (addK ks w.heap.size (.cells #[.int .i64 pl,.int .i64 fr,.int .i64 te,.bool held] 56)) rb V2 L1 nx1 uv us w2.drew):=Lib.hid HR2.out.drewN1
 have HRA:Hid (∀ o,RmI (addK (addK ks w.heap.size (.cells #[.int .i64 pl,.int .i64 fr,.int .i64 te,.bool held] 56)) w2.heap.size o) rb V2 L1 nx1 uv us (w2.alloc o).drew):=Lib.hid fun o=>(HR2.out.guard o).drewN1
 have HBD:Hid (Below rb w w2.drew):=Lib.hid HB2.out.drew
 have HBA:Hid (∀ o,Below rb w (w2.alloc o).drew):=Lib.hid fun o=>(HB2.out.alloc (Nat.le_of_lt hsz2) o).drew
 go_cut [8] (fun s wx=>∃ p,s=.pointer (some ⟨p,0,none⟩)∧Hid (ks p=none)∧Hid (∃ V3,RmI (addK ks p (.cells #[.int .i64 b,.int .i64 te,.pointer (some ⟨rb,T,none⟩)] 99)) rb V3 (upd L1 T ((L1 T).take k)) nx1 uv us wx∧Below rb w wx))
 case first =>
  go_region_law (first
   | (go_simp;go_at_call 56;refine (HTK.out _ HRD.out).mono ?_;rintro e w3 ⟨rfl,⟨V3,hr3⟩,hb3⟩;have HR3:=Lib.hid hr3;have HB3:=Lib.hid (HBD.out.trans hb3);have y3:w3.cell? ⟨w.heap.size,2,none⟩=some (.int .i64 te):=hr3.guarded.cell 2;have y3a:∀ o,(w3.alloc o).cell? ⟨w.heap.size,2,none⟩=some (.int .i64 te):=(fun o=>Lib.cell?_alloc_some o y3);clear hr3 hb3)
   | (go_simp;go_at_call 56;refine (HTKa.out _ (.cells #[.int .i64 0,.int .i64 0,.pointer none] 99) (HRA.out _)).mono ?_;rintro e w3 ⟨rfl,⟨V3,hr3⟩,hb3⟩;have HR3:=Lib.hid hr3;have HB3:=Lib.hid ((HBA.out _).trans hb3);have y3:w3.cell? ⟨w.heap.size,2,none⟩=some (.int .i64 te):=(hr3.guarded2 (Nat.ne_of_lt HQ2.out)).cell 2;have c0:w3.cell? ⟨w2.heap.size,0,none⟩=some (.int .i64 0):=hr3.guarded.cell 0;have c1:w3.cell? ⟨w2.heap.size,1,none⟩=some (.int .i64 0):=hr3.guarded.cell 1;have c2:w3.cell? ⟨w2.heap.size,2,none⟩=some (.pointer none):=hr3.guarded.cell 2;have f0:=hr3.guarded.frozen 0;have f1:=hr3.guarded.frozen 1;have f2:=hr3.guarded.frozen 2;clear hr3 hb3))
  all_goals
   go_wp2
   go_meet
   first
    | exact ⟨_,rfl,Lib.hid (HWP.out _ (Nat.le_of_lt HR3.out.guarded.lt)),Lib.hid ⟨_,(HR3.out.guard _).sub (addK_sub HWN.out),HB3.out.alloc (Nat.le_of_lt HR3.out.box.lt) _⟩⟩
    | exact ⟨_,rfl,Lib.hid (HWP.out _ (Nat.le_of_lt HQ2.out)),Lib.hid ⟨_,(((HR3.out.gset 0 (.int .i64 b)).gset 1 (.int .i64 te)).gset 2 (.pointer (some ⟨rb,T,none⟩))).sub (addK_sub HWN.out),((HB3.out.setCell (p:=⟨w2.heap.size,0,none⟩) (Nat.le_of_lt hsz2) _).setCell (p:=⟨w2.heap.size,1,none⟩) (Nat.le_of_lt hsz2) _).setCell (p:=⟨w2.heap.size,2,none⟩) (Nat.le_of_lt hsz2) _⟩⟩
 case rest =>
  clear HTK HTKa HRD HRA HBD HBA HR2 HB2 y2 y2a HLF HB0 HQ2 hsz2
  obtain ⟨p,rfl,HKP,HX⟩:=hcut
  obtain ⟨V3,hr3,hb3⟩:=HX.out
  have z0:wc.cell? ⟨p,0,none⟩=some (.int .i64 b):=hr3.guarded.cell 0
  have z1:wc.cell? ⟨p,1,none⟩=some (.int .i64 te):=hr3.guarded.cell 1
  have z2:wc.cell? ⟨p,2,none⟩=some (.pointer (some ⟨rb,T,none⟩)):=hr3.guarded.cell 2
  have HPU:Hid (Calls Tryz.prog 57 #[.iface 101 (.pointer (some ⟨rb,5,none⟩)),.iface 99 (.agg #[.int .i64 b,.int .i64 te,.pointer (some ⟨rb,T,none⟩)])] wc.drew fun e w'=>e=.returned (.tuple #[])∧(∃ uv',RmI (addK ks p (.cells #[.int .i64 b,.int .i64 te,.pointer (some ⟨rb,T,none⟩)] 99)) rb V3 (upd L1 T ((L1 T).take k)) nx1 uv' (tkU us ⟨b,te,T⟩) w')∧Below rb wc.drew w'):=Lib.hid (hpush_any hr3.drewN1 ⟨b,te,T⟩ hus)
  have HB3:Hid (Below rb w wc.drew):=Lib.hid hb3.drew
  clear hr3 hb3 HX
  go_upto_region 3 with fail
  go_region_law (first
   | (go_simp;go_at_call 57;refine HPU.out.mono ?_;rintro e w5 ⟨rfl,⟨uv5,hr5⟩,hb5⟩;have HR5:=Lib.hid hr5;have HB5:=Lib.hid (HB3.out.trans hb5);have z5:w5.cell? ⟨p,0,none⟩=some (.int .i64 b):=hr5.guarded.cell 0;clear hr5 hb5))
  all_goals
   go_wp2
   first | go_end0 | go_ret
   exact ⟨rfl,⟨_,_,HR5.out.forget HKP.out⟩,HB5.out⟩
end
theorem and_low (n:Nat) (hn:n<4294967296):bits .and .u64 (n:Int) 4294967295=n:=by
 rw [show (4294967295:Int)=((4294967295:Nat):Int) from rfl,u64_and_nat n 4294967295 (by omega) (by omega),show (4294967295:Nat)=2 ^ 32-1 from rfl,Nat.and_two_pow_sub_one_eq_mod,Nat.mod_eq_of_lt (by omega)]
theorem mul64_one (n:Nat) (hn:n≤4000) (w:World):Calls Tryz.prog 77 #[.int .u64 1,.int .u64 n] w fun e w'=>e=.returned (.tuple #[.int .u64 0,.int .u64 n])∧w'=w:=by
 have h1:bits .and .u64 1 4294967295=1:=and_low 1 (by decide)
 have h2:bits .and .u64 (n:Int) 4294967295=n:=and_low n (by omega)
 have h0:bits .and .u64 0 4294967295=0:=and_low 0 (by decide)
 have h3:(n:Int) / 4294967296=0:=by omega
 have h4:IntKind.u64.wrap (n:Int)=n:=by rw [IntKind.wrap_u64];omega
 have h5:IntKind.u64.wrap 0=0:=by decide
 go_enter Tryz.func77,Tryz.ntmps77
 go_wp2
 first | go_ret2 | go_end0
 exact ⟨rfl,rfl⟩
theorem mul_one' (n:Nat) (hn:n≤4000) (w:World):Calls Tryz.prog 52 #[.int .u64 1,.int .u64 n] w fun e w'=>e=.returned (.tuple #[.int .u64 0,.int .u64 n])∧w'=w:=by
 have HM:=Lib.hid (mul64_one n hn w)
 have h4:IntKind.u64.wrap (n:Int)=n:=by rw [IntKind.wrap_u64];omega
 go_enter Tryz.func52,Tryz.ntmps52
 go_wp2_with (go_at_call 77;refine HM.out.mono ?_;rintro e w2 ⟨rfl,rfl⟩)
 go_ret2
 exact ⟨rfl,rfl⟩
def rpL (v z:Value) (k m:Nat):List Value:=List.replicate k v ++ List.replicate (m-k) z
theorem rpL_len (v z:Value) {k m:Nat} (hk:k≤m):(rpL v z k m).length=m:=by simp [rpL];omega
theorem rpL_splice (v z:Value) {k c m:Nat} (h:k+c≤m):splice (rpL v z k m) k (List.replicate c v)=rpL v z (k+c) m:=by
 unfold splice rpL
 rw [List.take_left' (by simp),List.length_replicate,List.drop_append,List.length_replicate,List.drop_of_length_le (by simp),List.nil_append,List.drop_replicate,← List.append_assoc,List.replicate_append_replicate]
 congr 2
 omega
theorem rpL_at (v z:Value) {k j m:Nat} (h:j<k):(rpL v z k m)[j]?=some v:=by
 unfold rpL
 rw [List.getElem?_append_left (by simpa using h),List.getElem?_replicate,if_pos h]
theorem rpL_full (v z:Value) (m:Nat):(rpL v z m m).toArray=rowA m fun _=>v:=by
 unfold rpL rowA
 congr 1
 apply List.ext_getElem?
 intro i
 simp [List.getElem?_replicate,List.getElem?_map]
 by_cases h:i<m
 ·rw [if_pos h,List.getElem?_range h];rfl
 ·rw [if_neg h,List.getElem?_eq_none (by simpa using h)];rfl

theorem repeat_any (X m:Nat) (w:World) (hX:Blk w X 3 #[.int .i64 (-1)]) (hm:m≤1024) :
  Calls Tryz.prog 27 #[.slice (some ⟨X,0,none⟩) 1 1,.int .i64 m] w fun e w'=>e=.returned (.slice (some ⟨w.heap.size,0,none⟩) m m)∧Blk w' w.heap.size 3 (rowA m fun _=>.int .i64 (-1))∧Below w.heap.size w w':=by
 have HMU:=Lib.hid (mul_one' m (by omega) w)
 have hmk:∀ W:World,(Instr.makeSlice 26 (.int .i64 m) (.int .i64 m)).run Tryz.prog W=.ok (.slice (some ⟨W.heap.size,0,none⟩) m m) (W.alloc (.cells (madeCells #[.int .i64 0] m) 3)):=fun W=>run_make_row' _ _ _ 8 Tryz.underlying26 Tryz.info3 rfl .i64 .i64 m (by omega) (by omega) W
 have hwu:IntKind.u64.wrap (m:Int)=m:=by rw [IntKind.wrap_u64];omega
 have hwi:IntKind.i64.wrap (m:Int)=m:=by rw [IntKind.wrap_i64];omega
 have hw1:IntKind.u64.wrap 1=1:=by decide
 have g1:¬ (m:Int)<0:=by omega
 have g2:¬ (m:Int) > 9223372036854775807:=by omega
 have HX:=Lib.hid hX
 have hxl:=hX.lt
 have H0:Hid ((w.alloc (.cells (madeCells #[.int .i64 0] m) 3)).heap[w.heap.size]?=some (.cells (rpL (.int .i64 (-1)) (.int .i64 0) 0 m).toArray 3 (0,0))):=Lib.hid (by
  have h:=Blk.new w 3 (madeCells #[.int .i64 0] m)
  have e:madeCells #[.int .i64 0] m=(rpL (.int .i64 (-1)) (.int .i64 0) 0 m).toArray:=by
   rw [rowA_made]
   unfold rpL rowA
   congr 1
   apply List.ext_getElem?
   intro i
   simp [List.getElem?_replicate,List.getElem?_map]
   by_cases h:i<m
   ·rw [if_pos h,List.getElem?_range h];rfl
   ·rw [if_neg h,List.getElem?_eq_none (by simpa using h)];rfl
  rw [← e]
  exact h)
 have HB0:Hid (Below w.heap.size w (w.alloc (.cells (madeCells #[.int .i64 0] m) 3))):=Lib.hid ((Below.refl _ _).alloc (Nat.le_refl _) _)
 obtain ⟨c,hc⟩:∃ c,c=Nat.min 1 m:=⟨_,rfl⟩
 have hc2:c≤m∧(1≤c∨m=0)∧c≤1:=by
  rw [hc]
  show min 1 m≤m∧(1≤min 1 m∨m=0)∧min 1 m≤1
  omega
 have HC:=Lib.hid hc
 have HC2:=Lib.hid hc2
 have HS:Hid (∀ (o:Obj) j v,(List.replicate c (Value.int .i64 (-1)))[j]?=some v→(w.alloc o).cell? ((⟨X,0,none⟩:Addr).add j)=some v):=Lib.hid fun o j v hj=>by
  rw [List.getElem?_replicate] at hj
  by_cases hjc:j<c
  ·rw [if_pos hjc] at hj
   injection hj with hj
   obtain rfl:j=0:=by omega
   rw [← hj]
   exact (HX.out.alloc o).cell 0
  ·rw [if_neg hjc] at hj;cases hj
 have HFI:Hid (0+(List.replicate c (Value.int .i64 (-1))).length≤(rpL (.int .i64 (-1)) (.int .i64 0) 0 m).length):=Lib.hid (by rw [rpL_len _ _ (by omega),List.length_replicate];omega)
 have HO1:Hid (∀ c,∀ v ∈ List.replicate c (Value.int .i64 (-1)),v.oneCell'=true):=Lib.hid fun c v hv=>by rw [(List.mem_replicate.1 hv).2];rfl
 clear hX hc hc2
 go_enter Tryz.func27,Tryz.ntmps27
 go_wp2_with (first
  | (go_at_call 52;refine HMU.out.mono ?_;rintro e w2 ⟨rfl,rfl⟩)
  | (refine wpList_copy_splice rfl _ _ 26 26 rfl 3 Tryz.underlying26 (by kernel_rfl) (some ⟨w2.heap.size,0,none⟩) (some ⟨X,0,none⟩) m m 1 1 rfl rfl w2.heap.size 0 _ _ H0.out (List.replicate c (.int .i64 (-1))) (by rw [List.length_replicate];exact HC.out) (fun hp=>⟨rfl,_,rfl,HS.out _⟩) HFI.out (HO1.out c) w2.heap.size w2 HB0.out (Nat.le_refl _) ?_;intro w3 h3 hb3;have H3:=Lib.hid h3;have HB3:=Lib.hid hb3;clear h3 hb3)
  | go_in)
 have H4:Hid (w3.heap[w2.heap.size]?=some (.cells (rpL (.int .i64 (-1)) (.int .i64 0) c m).toArray 3 (0,0))):=Lib.hid (by
  have h:=H3.out
  rw [rpL_splice _ _ (by rw [Nat.zero_add];exact HC2.out.1),Nat.zero_add] at h
  exact h)
 clear H3 H0 HB0 HMU HS HFI hmk
 obtain ⟨g,hg⟩:∃ g,g=w2.heap.size:=⟨_,rfl⟩
 have HG:=Lib.hid hg
 rw [← hg] at H4 HB3 ⊢
 clear hg
 go_loopw [8] (fun s wr=>∃ k:Nat,s=.int .i64 k∧Hid (1≤k∨m=0)∧k≤m∧Hid (wr.heap[g]?=some (.cells (rpL (.int .i64 (-1)) (.int .i64 0) k m).toArray 3 (0,0)))∧Hid (Below g w2 wr)) (fun s _=>m-(intOf s).toNat)
 case atStart=>exact ⟨c,by simp [goInt],Lib.hid HC2.out.2.1,HC2.out.1,H4,HB3⟩
 case round =>
  clear H4 HB3
  obtain ⟨k,rfl,hk1,hk,HR,HB⟩:=hrel
  by_cases hlt:k<m
  ·have hk0:0<k:=by have:=hk1.out;omega
   obtain ⟨c2,hc2⟩:∃ c2,c2=Nat.min k (m-k):=⟨_,rfl⟩
   have hcc:c2≤m-k∧c2≤k∧0<c2:=by
    rw [hc2]
    show min k (m-k)≤m-k∧min k (m-k)≤k∧0<min k (m-k)
    omega
   have HC3:=Lib.hid hc2
   have HS:Hid (∀ j v,(List.replicate c2 (Value.int .i64 (-1)))[j]?=some v→wr.drew.cell? ((⟨g,0,none⟩:Addr).add j)=some v):=Lib.hid fun j v hj=>by
    rw [List.getElem?_replicate] at hj
    by_cases hjc:j<c2
    ·rw [if_pos hjc] at hj
     have ea:(⟨g,0,none⟩:Addr).add j=⟨g,j,none⟩:=by simp [Addr.add];exact Eq.symm
     have hb:Blk wr.drew g 3 (rpL (.int .i64 (-1)) (.int .i64 0) k m).toArray:=HR.out
     rw [ea,hb.cell,List.getElem?_toArray,rpL_at _ _ (by omega),← hj]
    ·rw [if_neg hjc] at hj;cases hj
   have HFI:Hid (k+(List.replicate c2 (Value.int .i64 (-1))).length≤(rpL (.int .i64 (-1)) (.int .i64 0) k m).length):=Lib.hid (by rw [rpL_len _ _ hk,List.length_replicate];omega)
   have HNX:Hid (∀ w':World,Hid (w'.heap[g]?=some (.cells (splice (rpL (.int .i64 (-1)) (.int .i64 0) k m) k (List.replicate c2 (.int .i64 (-1)))).toArray 3 (0,0)))→w'.heap[g]?=some (.cells (rpL (.int .i64 (-1)) (.int .i64 0) (k+c2) m).toArray 3 (0,0))):=Lib.hid fun w' h=>by
    have h:=h.out
    rw [rpL_splice _ _ (by omega)] at h
    exact h
   have HCC:=Lib.hid hcc
   have hne:¬ m=k:=by omega
   have HRD:Hid (wr.drew.heap[g]?=some (.cells (rpL (.int .i64 (-1)) (.int .i64 0) k m).toArray 3 (0,0))):=HR
   have HBD:Hid (Below g w2 wr.drew):=Lib.hid HB.out.drew
   obtain ⟨W5,hrun,H5,HB5⟩:∃ W5,(Builtin.copy_ #[26,26] 3 #[.slice (some ⟨g,k,none⟩) (m-k) (m-k),.slice (some ⟨g,0,none⟩) k m]).run Tryz.prog wr.drew=.ok (.int .i64 c2) W5 ∧
     Hid (W5.heap[g]?=some (.cells (rpL (.int .i64 (-1)) (.int .i64 0) (k+c2) m).toArray 3 (0,0)))∧Hid (Below g w2 W5):=by
    have h:=run_copy_row (P:=Tryz.prog) wr.drew 26 26 3 3 g k (m-k) (m-k) ⟨g,0,none⟩ k m _ 3 (List.replicate c2 (.int .i64 (-1))) Tryz.underlying26 (by kernel_rfl) HRD.out (by rw [List.length_replicate];exact HC3.out) HS.out (by have:=HFI.out;simpa using this) (HO1.out c2)
    refine ⟨_,by rw [h,List.length_replicate];rfl,Lib.hid (HNX.out _ (Lib.hid ?_)),Lib.hid (below_setRow HBD.out (Nat.le_refl _) _)⟩
    have h6:=setRow_heap wr.drew g _ (splice (rpL (.int .i64 (-1)) (.int .i64 0) k m) k (List.replicate c2 (.int .i64 (-1)))).toArray 3 _ HRD.out
    simpa [splice] using h6
   have hkc:k+c2≤m:=by omega
   have hc0:0<c2:=hcc.2.2
   clear hc2 hcc HR HB
   go_wp2
   go_region
   all_goals
    go_wp2
    go_roundw
    case rel=>exact ⟨k+c2,by go_num,Lib.hid (Or.inl (by omega)),hkc,H5,HB5⟩
    case measure=>simp [intOf];omega
  ·obtain rfl:m=k:=by omega
   go_wp2
   first | go_end0 | go_ret
   have h:=HR.out
   rw [rpL_full] at h
   rw [HG.out]
   exact ⟨rfl,by rw [← HG.out];exact h,by rw [← HG.out];exact HB.out⟩
structure ASt where
 bd:Nat→Int
 L:Nat→List Int
 nx:Int
 us:List U3
def asE (st:ASt) (s:Iv):(Nat→List Int) × List U3:=endB s.f st.us.length st.L st.us
def asL (kd:Nat→Nat) (st:ASt) (s:Iv):Nat→List Int:=lfL s.h (kd s.p.toNat) (asE st s).1 st.nx
def asI (kd:Nat→Nat) (st:ASt) (s:Iv):Nat:=lfI s.h (kd s.p.toNat) (asE st s).1
def asN (kd:Nat→Nat) (st:ASt) (s:Iv):Nat:=(asL kd st s (asI kd st s)).length-1
def asB (kd:Nat→Nat) (st:ASt) (s:Iv):Int:=(asL kd st s (asI kd st s)).getD (asN kd st s) 0
def asStep (kd:Nat→Nat) (st:ASt) (s:Iv):ASt :=
 ⟨upd st.bd s.p.toNat (asB kd st s),upd (asL kd st s) (asI kd st s) ((asL kd st s (asI kd st s)).take (asN kd st s)),lfX s.h (kd s.p.toNat) (asE st s).1 st.nx,tkU (asE st s).2 ⟨asB kd st s,s.t,asI kd st s⟩⟩
def as0:ASt:=⟨fun _=>-1,newL 6,16,[]⟩
def asRun (kd:Nat→Nat) (S:Nat→Iv):Nat→ASt
 | 0=>as0
 | i+1=>asStep kd (asRun kd S i) (S i)

structure AsOk (i:Nat) (st:ASt):Prop where
 uok:UOk st.us
 nx:16≤st.nx∧st.nx≤16+i
 len:∀ l,l<4→(st.L l).length+st.us.length≤16+i
theorem as0_ok:AsOk 0 as0:=⟨fun k=>by simp [as0,u0],by simp [as0],fun l hl=>by have:=newL_len 6 l;simp [as0];omega⟩
theorem lfL_other {held:Bool} {kd:Nat} {L:Nat→List Int} {nx:Int} {l:Nat} (h:l≠lfI held kd L):lfL held kd L nx l=L l:=by
 unfold lfL
 by_cases e:lfN held kd (L 0).length (L 1).length (L (2+kd)).length=true
 ·rw [if_pos e]
  have e2:lfI held kd L=2+kd:=by
   unfold lfN at e
   simp at e
   exact e.1
  rw [upd_ne (by rw [← e2];exact h)]
 ·rw [if_neg e]
theorem lfL_len {held:Bool} {kd:Nat} {L:Nat→List Int} {nx:Int} (l:Nat):(lfL held kd L nx l).length≤(L l).length+1:=by
 unfold lfL
 split
 ·by_cases e:l=2+kd
  ·rw [e,upd_at];simp
  ·rw [upd_ne e];omega
 ·omega
theorem tkU_len (us:List U3) (u:U3):(tkU us u).length=us.length+1:=by unfold tkU;rw [upU_len];simp
theorem as_step {kd:Nat→Nat} {st:ASt} {s:Iv} {i:Nat} (h:AsOk i st) (hk:kd s.p.toNat<2) (hU:UOk (asE st s).2) (hN:∀ l,l<4→((asE st s).1 l).length+(asE st s).2.length≤16+i):AsOk (i+1) (asStep kd st s):=by
 refine ⟨(hU.push (u:=⟨asB kd st s,s.t,asI kd st s⟩) (lfI_lt hk)).up _ _ _,?_,fun l hl=>?_⟩
 ·have:=h.nx
  show 16≤lfX s.h (kd s.p.toNat) (asE st s).1 st.nx∧lfX s.h (kd s.p.toNat) (asE st s).1 st.nx≤16+((i+1:Nat):Int)
  unfold lfX
  split <;> omega
 ·show (upd (asL kd st s) (asI kd st s) ((asL kd st s (asI kd st s)).take (asN kd st s)) l).length+(tkU (asE st s).2 _).length≤16+(i+1)
  rw [tkU_len]
  have h1:=hN l hl
  by_cases e:l=asI kd st s
  ·rw [e,upd_at,List.length_take]
   have h2:(asL kd st s (asI kd st s)).length≤((asE st s).1 (asI kd st s)).length+1:=lfL_len _
   rw [e] at h1
   unfold asN
   omega
  ·rw [upd_ne e,show asL kd st s l=(asE st s).1 l from lfL_other e]
   omega
end Go.Proofs.YtedmcfaghfgpoaaGreatDoor
