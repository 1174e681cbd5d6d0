/-
  Texts of one seat, one behind the other: JFi, JPl, Open, LVars.
-/
import Derived.Deep.Slices
import Derived.Deep.Fields
import Derived.ChangeSame
import Derived.Lib.SmallJoins
import Derived.OpenShut
import Derived.ShutString
import Derived.SizedLaws
import Derived.Lib.LaidTab
import Derived.Test.YtedmcfaghfgpoaaGreatDoorMA19
import Derived.Test.YtedmcfaghfgpoaaGreatDoorMA18
import Derived.Test.YtedmcfaghfgpoaaGreatDoorMA2
import Derived.Test.YtedmcfaghfgpoaaGreatDoorMA5

set_option linter.unusedVariables false
set_option linter.unusedSimpArgs false
set_option maxRecDepth 100000
set_option maxHeartbeats 51200000
namespace Go.Proofs.YtedmcfaghfgpoaaGreatDoor
open Go.ChangeShapes Go.WideShapes Go.ChangeAt Go.RowKit
theorem AsPost.ok {gs:List Gr} {g:Gr} {k:Nat} {w w':World} {e:Ending} (h:AsPost gs k w e w') (hv:valid gs false) (hg:gs[k]?=some g) :
  Below w.heap.size w w'∧∃ b,e=.returned (.tuple #[.slice (some ⟨b,0,none⟩) g.kinds.length g.kinds.length,.int .i64 0])∧w.heap.size≤b∧Blk w' b 3 (rowA g.kinds.length fun q=>.int .i64 (asgG g q)):=by
 obtain ⟨hb,A,n,rfl,_,h0⟩:=h
 have hz:chkL gs k=0:=chk_ok hv (List.getElem?_eq_some_iff.1 hg).1
 obtain ⟨g2,b,h1,rfl,h2,rfl,h3⟩:=h0 hz
 rw [Int.toNat_natCast,hg] at h1
 injection h1 with h1
 subst h1
 exact ⟨hb,b,by rw [hz],h2,h3⟩
theorem AsPost.bad {gs:List Gr} {f z:Int} {w w':World} {e:Ending} (h:AsPost gs f w e w') (hz:chkL gs f=z) (h0:z≠0):Below w.heap.size w w'∧e=.returned (.tuple #[.slice none 0 0,.int .i64 z]):=by
 obtain ⟨hb,A,n,rfl,h1,_⟩:=h
 obtain ⟨rfl,rfl⟩:=h1 (by rw [hz];exact h0)
 exact ⟨hb,by rw [hz]⟩
theorem blk_readsO {w:World} {g n size B:Nat} {t:TypeId} {cs:Array Value} (h:Blk w g t cs) (hs:cs.size=n*size) (hB:g<B):Reads w B size (some ⟨g,0,none⟩) n cs.toList :=
 ⟨by simpa using hs,fun _=>⟨_,rfl,hB,fun j u hj=>by
  have ea:(⟨g,0,none⟩:Addr).add j=⟨g,j,none⟩:=by simp [Addr.add];exact Eq.symm
  rw [ea,h.cell]
  simpa using hj⟩⟩
def jn0:Nd:=⟨1,0,0,0,0,0,0,0,0,[],1,0⟩
def jn1:Nd:=⟨17,0,0,0,0,0,0,0,0,[],2,0⟩
def jn2:Nd:=⟨12,0,0,0,-1,0,0,0,0,[],0,0⟩
def jgr:Gr:=⟨[],[0],0,[],false,-1,[jn0,jn1,jn2],0⟩
def jrg (z:Nat):RG:=⟨jgr,none,0,some ⟨z,0,none⟩,1,none,0,some ⟨z+1,0,none⟩,3,[⟨jn0,none,0⟩,⟨jn1,none,0⟩,⟨jn2,none,0⟩]⟩
theorem jvalid:valid [jgr] false:=by decide +kernel
theorem jwfn (n:Nd) (h:n ∈ [jn0,jn1,jn2]):WfN n:=by
 simp at h
 rcases h with rfl | rfl | rfl <;> exact ⟨by decide,by decide,by decide,by decide,⟨by decide,by decide⟩,⟨by decide,by decide⟩,⟨by decide,by decide⟩,⟨by decide,by decide⟩,⟨by decide,by decide⟩,⟨by decide,by decide⟩,by decide,by decide,(fun x h=>by cases h),⟨by decide,by decide⟩,⟨by decide,by decide⟩,by decide⟩
theorem jwfg:WfG jgr:=⟨(fun x h=>by cases h),(fun x h=>by simp [jgr] at h;subst h;exact ⟨by decide,by decide⟩),⟨by decide,by decide⟩,(fun x h=>by cases h),⟨by decide,by decide⟩,(fun i hi=>jwfn i hi),⟨by decide,by decide⟩,by decide,by decide,by decide,by decide⟩
def jcK:Array Value:=#[.int .u8 0]
def jcN:Array Value:=#[.int .u8 1,.int .u8 0,.int .i64 0,.int .i64 0,.int .i64 0,.int .i64 0,.int .i64 0,.int .i64 0,.int .u64 0,.slice none 0 0,.int .i64 1,.int .i64 0,.int .u8 17,.int .u8 0,.int .i64 0,.int .i64 0,.int .i64 0,.int .i64 0,.int .i64 0,.int .i64 0,.int .u64 0,.slice none 0 0,.int .i64 2,.int .i64 0,.int .u8 12,.int .u8 0,.int .i64 0,.int .i64 0,.int .i64 (-1),.int .i64 0,.int .i64 0,.int .i64 0,.int .u64 0,.slice none 0 0,.int .i64 0,.int .i64 0]
def jcG (z:Nat):Array Value:=#[.slice none 0 0,.slice (some ⟨z,0,none⟩) 1 1,.int .i64 0,.slice none 0 0,.bool false,.int .i64 (-1),.slice (some ⟨z+1,0,none⟩) 3 3,.int .i64 0]
theorem jrd_ {W:World} {z:Nat} (hK:Blk W z 42 jcK) (hN:Blk W (z+1) 47 jcN) (hG:Blk W (z+2) 35 (jcG z)):RdP W (z+3) (some ⟨z+2,0,none⟩) 1 [jrg z]:=by
 refine ⟨blk_readsO (size:=8) hG rfl (by omega),rfl,fun r hr=>?_,fun r hr=>?_,by omega⟩
 ·obtain rfl:r=jrg z:=by simpa using hr
  refine ⟨Reads.none_,blk_readsO (size:=1) (n:=1) hK rfl (by omega),Reads.none_,⟨blk_readsO (size:=12) (n:=3) hN rfl (by omega),rfl,fun i hi=>?_,fun i hi=>?_⟩,rfl,Nat.le_refl _⟩
  ·simp [jrg] at hi
   rcases hi with rfl | rfl | rfl <;> exact ⟨Reads.none_,Nat.le_refl _⟩
  ·simp [jrg] at hi
   rcases hi with rfl | rfl | rfl
   ·exact jwfn _ (by simp)
   ·exact jwfn _ (by simp)
   ·exact jwfn _ (by simp)
 ·obtain rfl:r=jrg z:=by simpa using hr
  exact jwfg
theorem jline:lineG jgr=[0,1,2]:=by decide +kernel
theorem jw0:WorkP jgr.nodes jgr.params [0,1,2] (0:Int) 0:=.inl (.inr ⟨jn0,rfl,by decide⟩)
theorem jw1:WorkP jgr.nodes jgr.params [0,1,2] (0:Int) 1:=.inl (.inl (.here (n:=jn1) rfl (by decide)))
theorem jw2:¬ WorkP jgr.nodes jgr.params [0,1,2] (0:Int) 2:=by
 rintro (h | h)
 ·rcases h with h | ⟨n,h,h2⟩
  ·cases h with
   | here h hr =>
    obtain rfl:jn2=_:=by simpa [jgr,atL] using h
    exact absurd hr (by decide)
   | next h _ hj _ =>
    obtain rfl:jn2=_:=by simpa [jgr,atL] using h
    exact absurd hj (by simp [nextsOf,jn2])
  ·obtain rfl:jn2=_:=by simpa [jgr,atL] using h
   exact absurd h2 (by decide)
 ·exact absurd h.1 (by decide)
theorem jh (i:Nat):¬ HeldN jgr.nodes (0:Int) i:=by
 rintro ⟨n,h,h2,_⟩
 have hm:=List.mem_of_getElem? h
 simp [jgr] at hm
 rcases hm with rfl | rfl | rfl <;> simp [jn0,jn1,jn2] at h2
theorem jspans:spansG jgr=[⟨0,0,1,false⟩]:=by
 unfold spansG
 rw [jline]
 show spansL jgr.nodes jgr.params [0,1,2] 1=_
 rw [spansL_succ]
 have e:ivK jgr.nodes jgr.params [0,1,2] ((0:Nat):Int) ([0,1,2]:List Int).length=⟨0,0,1,false⟩:=by
  show ivK jgr.nodes jgr.params [0,1,2] (0:Int) 3=_
  rw [ivK_no jw2,ivK_yes jw1,ivK_yes jw0]
  simp [jh,ivK]
 rw [e]
 rfl
theorem jasg:asgG jgr 0=0:=by
 unfold asgG spS spF
 rw [jspans]
 rfl
theorem jfirst_any (w:World) (hT:TzTab w):Calls Tryz.prog 6 #[] w fun e w'=>e=.returned (.bool true)∧Below w.heap.size w w':=by
 obtain ⟨W,hW⟩:∃ W,W=((((w.alloc (.cells jcK 42)).alloc (.cells jcN 47)).alloc (.cells (jcG w.heap.size) 35)).alloc (.cells #[.slice (some ⟨w.heap.size+1+1,0,none⟩) 1 1] 24)):=⟨_,rfl⟩
 have hz:W.heap.size=w.heap.size+4:=by rw [hW];simp
 have hbw:Below w.heap.size w W:=by
  rw [hW]
  exact ((((Below.refl _ _).alloc (Nat.le_refl _) _).alloc (by simp) _).alloc (by simp;omega) _).alloc (by simp;omega) _
 have b0:Blk W w.heap.size 42 jcK:=by
  rw [hW]
  exact (((Blk.new w _ _).alloc _).alloc _).alloc _
 have b1:Blk W (w.heap.size+1) 47 jcN:=by
  have h:=Blk.new (w.alloc (.cells jcK 42)) 47 jcN
  rw [show (w.alloc (.cells jcK 42)).heap.size=w.heap.size+1 by simp] at h
  rw [hW]
  exact (h.alloc _).alloc _
 have b2:Blk W (w.heap.size+2) 35 (jcG w.heap.size):=by
  have h:=Blk.new ((w.alloc (.cells jcK 42)).alloc (.cells jcN 47)) 35 (jcG w.heap.size)
  rw [show ((w.alloc (.cells jcK 42)).alloc (.cells jcN 47)).heap.size=w.heap.size+2 by simp] at h
  rw [hW]
  exact h.alloc _
 have b3:Blk W (w.heap.size+1+1+1) 24 #[.slice (some ⟨w.heap.size+1+1,0,none⟩) 1 1]:=by
  have h:=Blk.new (((w.alloc (.cells jcK 42)).alloc (.cells jcN 47)).alloc (.cells (jcG w.heap.size) 35)) 24 #[.slice (some ⟨w.heap.size+1+1,0,none⟩) 1 1]
  rw [show (((w.alloc (.cells jcK 42)).alloc (.cells jcN 47)).alloc (.cells (jcG w.heap.size) 35)).heap.size=w.heap.size+1+1+1 by simp] at h
  rw [hW]
  exact h
 have HRD:=Lib.hid (jrd_ b0 b1 b2)
 have HB3:=Lib.hid b3
 have HBW:=Lib.hid hbw
 have HZ:=Lib.hid hz
 have HT:=Lib.hid hT
 have HAS:=Lib.hid (asg_any (w.heap.size+3) (some ⟨w.heap.size+1+1,0,none⟩) 1 1 [jrg w.heap.size] 0 W HRD.out (by omega) (HT.out.below HBW.out))
 have z0:W.cell? ⟨w.heap.size+1+1+1,0,none⟩=some (.slice (some ⟨w.heap.size+1+1,0,none⟩) 1 1):=b3.cell 0
 clear b0 b1 b2 b3 hbw hz hT
 go_enter Tryz.func6,Tryz.ntmps6
 go_upto_region 2 with fail
 unfold jcK jcN jcG at hW
 rw [← hW]
 clear hW
 obtain ⟨p2,hp2⟩:∃ p,p=w.heap.size+1+1:=⟨_,rfl⟩
 obtain ⟨p3,hp3⟩:∃ p,p=p2+1:=⟨_,rfl⟩
 rw [← hp2] at HAS HB3 z0 ⊢
 rw [← hp3] at HB3 z0 ⊢
 clear hp2 hp3
 go_wp2_with (first
  | (go_at_call 7;refine HAS.out.mono ?_;rintro e w2 hl;obtain ⟨hb2,g2,rfl,hg2,hk2⟩:=AsPost.ok (k:=0) (g:=jgr) hl jvalid rfl;rw [show jgr.kinds.length=1 from rfl] at hk2 ⊢;have y0:w2.cell? ⟨g2,0,none⟩=some (.int .i64 0):=(by have h:=hk2.cell 0;rw [rowA_at _ (show 0<1 by decide),jasg] at h;exact h);have HB2:=Lib.hid hb2;clear hl hb2 hg2 hk2)
  | go_in)
 first | go_ret | go_end0
 exact ⟨rfl,HBW.out.trans (HB2.out.mono (by rw [HZ.out];omega))⟩
theorem swU_at {us:List U3} {i j:Nat} (hi:i<us.length) (hj:j<us.length) (k:Nat):(swU us i j).getD k u0=if k=j then us.getD i u0 else if k=i then us.getD j u0 else us.getD k u0:=by
 unfold swU
 rw [getD_set (by rw [List.length_set];exact hj),getD_set hi]
def UPrm (n:Nat) (us vs:List U3):Prop:=Prm n (fun k=>us.getD k u0) (fun k=>vs.getD k u0)
theorem uprm_sw {us:List U3} {i j n:Nat} (hi:i<n) (hj:j<n) (hn:n≤us.length):UPrm n us (swU us i j):=by
 have h:=Prm.sw (m:=n) (fun k=>us.getD k u0) hi hj
 unfold UPrm
 have e:(fun k=>(swU us i j).getD k u0)=sw (fun k=>us.getD k u0) i j:=by
  funext k
  rw [swU_at (by omega) (by omega),sw_at]
 rw [e]
 exact h
theorem UPrm.refl (n:Nat) (us:List U3):UPrm n us us:=Prm.refl _ _
theorem UPrm.trans {n:Nat} {a b c:List U3} (h:UPrm n a b) (k:UPrm n b c):UPrm n a c:=Prm.trans h k
theorem upU_prm:∀ (f:Nat) (us:List U3) (j:Nat),j<us.length→UPrm us.length us (upU f us j)
 | 0,us,j,_=>UPrm.refl _ _
 | f+1,us,j,h=>by
  unfold upU
  split
  ·exact UPrm.refl _ _
  ·have h1:=uprm_sw (us:=us) (i:=(j-1) / 2) (j:=j) (n:=us.length) (by omega) h (Nat.le_refl _)
   have h2:=upU_prm f (swU us ((j-1) / 2) j) ((j-1) / 2) (by rw [swU_len];omega)
   rw [swU_len] at h2
   exact h1.trans h2
theorem chD_le (us:List U3) {i n:Nat} (h:¬ n≤2*i+1):i<chD us i n∧chD us i n<n:=by
 unfold chD
 split <;> omega
theorem downU_prm:∀ (f:Nat) (us:List U3) (i n:Nat),n≤us.length→UPrm n us (downU f us i n)∧∀ k,n≤k→(downU f us i n).getD k u0=us.getD k u0
 | 0,us,i,n,_=>⟨UPrm.refl _ _,fun _ _=>rfl⟩
 | f+1,us,i,n,h=>by
  unfold downU
  split
  ·exact ⟨UPrm.refl _ _,fun _ _=>rfl⟩
  ·rename_i hc
   split
   ·exact ⟨UPrm.refl _ _,fun _ _=>rfl⟩
   ·have hch:=chD_le us hc
    have h1:=uprm_sw (us:=us) (i:=i) (j:=chD us i n) (n:=n) (by omega) hch.2 h
    obtain ⟨h2,h3⟩:=downU_prm f (swU us i (chD us i n)) (chD us i n) n (by rw [swU_len];exact h)
    refine ⟨h1.trans h2,fun k hk=>?_⟩
    rw [h3 k hk,swU_at (by omega) (by omega),if_neg (by omega),if_neg (by omega)]
theorem popU_prm {us:List U3} {f:Nat} (h:us.length=f+1):UPrm (f+1) us (popU us)∧(popU us).getD f u0=us.getD 0 u0:=by
 unfold popU
 rw [h,show f+1-1=f from rfl]
 have h1:=uprm_sw (us:=us) (i:=0) (j:=f) (n:=f+1) (by omega) (by omega) (by omega)
 obtain ⟨h2,h3⟩:=downU_prm (f+1) (swU us 0 f) 0 f (by rw [swU_len];omega)
 have e:(downU (f+1) (swU us 0 f) 0 f).getD f u0=us.getD 0 u0:=by rw [h3 f (Nat.le_refl _),swU_at (by omega) (by omega),if_pos rfl]
 refine ⟨h1.trans ?_,e⟩
 obtain ⟨π,ρ,hp⟩:=h2
 refine ⟨fun k=>if k<f then π k else k,fun k=>if k<f then ρ k else k,fun k hk=>?_⟩
 by_cases hkf:k<f
 ·obtain ⟨a1,a2,a3,a4,a5⟩:=hp k hkf
  simp only [if_pos hkf,if_pos a1,if_pos a2]
  exact ⟨by omega,by omega,a3,a4,a5⟩
 ·have hke:k=f:=by omega
  subst hke
  simp only [if_neg hkf]
  exact ⟨hk,hk,trivial,trivial,h3 k (Nat.le_refl _)⟩

def DomF (fam:Int→Nat) (nx x:Int):Prop:=(fam x=0∧0≤x∧x<6)∨(fam x=1∧6≤x∧x<12)∨((fam x=2∨fam x=3)∧16≤x∧x<nx)
structure PI (fam:Int→Nat) (L:Nat→List Int) (nx:Int) (us:List U3):Prop where
 nd:∀ l,l<4→(L l).Nodup
 fl:∀ l,l<4→∀ x ∈ L l,fam x=l∧DomF fam nx x
 fu:∀ i,i<us.length→fam (us.getD i u0).b=(us.getD i u0).l∧DomF fam nx (us.getD i u0).b
 dis:∀ i,i<us.length→(us.getD i u0).b ∉ L (us.getD i u0).l
 inj:∀ i j,i<us.length→j<us.length→(us.getD i u0).b=(us.getD j u0).b→i=j
def InU (us:List U3) (u:U3):Prop:=∃ i,i<us.length∧us.getD i u0=u
section
variable {fam:Int→Nat} {L:Nat→List Int} {nx:Int} {us vs:List U3}
theorem PI.l4 (h:PI fam L nx us) {i:Nat} (hi:i<us.length):(us.getD i u0).l<4:=by
 obtain ⟨h1,h2⟩:=h.fu i hi
 rw [← h1]
 rcases h2 with ⟨e,_⟩ | ⟨e,_⟩ | ⟨e | e,_⟩ <;> rw [e] <;> omega
theorem PI.prm (h:PI fam L nx us) (hp:UPrm us.length us vs) (hl:vs.length=us.length):PI fam L nx vs:=by
 obtain ⟨π,ρ,hπ⟩:=hp
 refine ⟨h.nd,h.fl,fun i hi=>?_,fun i hi=>?_,fun i j hi hj e=>?_⟩
 ·obtain ⟨a1,_,_,_,a5⟩:=hπ i (by omega)
  simp only at a5
  rw [a5];exact h.fu _ a1
 ·obtain ⟨a1,_,_,_,a5⟩:=hπ i (by omega)
  simp only at a5
  rw [a5];exact h.dis _ a1
 ·obtain ⟨a1,_,_,a4,a5⟩:=hπ i (by omega)
  obtain ⟨b1,_,_,b4,b5⟩:=hπ j (by omega)
  simp only at a5 b5
  rw [a5,b5] at e
  have:=h.inj _ _ a1 b1 e
  rw [← a4,← b4,this]
theorem InU.prm (hp:UPrm us.length us vs) (hl:vs.length=us.length) (u:U3):InU us u↔InU vs u:=by
 obtain ⟨π,ρ,hπ⟩:=hp
 constructor
 ·rintro ⟨i,hi,e⟩
  obtain ⟨a1,a2,a3,a4,a5⟩:=hπ i hi
  obtain ⟨b1,b2,b3,b4,b5⟩:=hπ (ρ i) a2
  simp only at b5
  exact ⟨ρ i,by omega,by rw [b5,a3,e]⟩
 ·rintro ⟨i,hi,e⟩
  obtain ⟨a1,a2,a3,a4,a5⟩:=hπ i (by omega)
  simp only at a5
  exact ⟨π i,a1,by rw [← a5,e]⟩
theorem take_getD (vs:List U3) {f k:Nat} (h:k<f):(vs.take f).getD k u0=vs.getD k u0:=by
 rw [List.getD_eq_getElem?_getD,List.getElem?_take,if_pos h,← List.getD_eq_getElem?_getD]
theorem PI.pop (h:PI fam L nx us) {f:Nat} (hf:us.length=f+1):PI fam (upd L ((popU us).getD f u0).l (L ((popU us).getD f u0).l ++ [((popU us).getD f u0).b])) nx ((popU us).take f):=by
 have hl:(popU us).length=us.length:=popU_len us
 have h1:=h.prm (by rw [hf];exact (popU_prm hf).1) hl
 have ht:((popU us).take f).length=f:=by rw [List.length_take];omega
 have hfl:f<(popU us).length:=by omega
 have l4:=h1.l4 hfl
 have hu:=h1.fu f hfl
 have hd:=h1.dis f hfl
 refine ⟨fun l hl4=>?_,fun l hl4 x hx=>?_,fun i hi=>?_,fun i hi=>?_,fun i j hi hj e=>?_⟩
 ·by_cases e:l=((popU us).getD f u0).l
  ·rw [e,upd_at]
   refine List.nodup_append.2 ⟨h1.nd _ l4,by simp,fun a ha b hb=>?_⟩
   rw [List.mem_singleton] at hb
   rw [hb]
   exact fun e2=>hd (by rw [← e2];exact ha)
  ·rw [upd_ne e];exact h1.nd l hl4
 ·by_cases e:l=((popU us).getD f u0).l
  ·rw [e,upd_at] at hx
   rcases List.mem_append.1 hx with h2 | h2
   ·rw [e];exact h1.fl _ l4 x h2
   ·rw [List.mem_singleton] at h2
    rw [h2,e]
    exact hu
  ·rw [upd_ne e] at hx;exact h1.fl l hl4 x hx
 ·rw [ht] at hi
  rw [take_getD _ hi]
  exact h1.fu i (by omega)
 ·rw [ht] at hi
  rw [take_getD _ hi]
  by_cases e:((popU us).getD i u0).l=((popU us).getD f u0).l
  ·rw [e,upd_at]
   intro h2
   rcases List.mem_append.1 h2 with h3 | h3
   ·rw [← e] at h3;exact h1.dis i (by omega) h3
   ·rw [List.mem_singleton] at h3
    have:=h1.inj i f (by omega) hfl h3
    omega
  ·rw [upd_ne e];exact h1.dis i (by omega)
 ·rw [ht] at hi hj
  rw [take_getD _ hi,take_getD _ hj] at e
  exact h1.inj i j (by omega) (by omega) e
theorem endB_pi (p:Int):∀ (f:Nat) (L:Nat→List Int) (us:List U3),us.length=f→PI fam L nx us→PI fam (endB p f L us).1 nx (endB p f L us).2∧(∀ u,InU us u→InU (endB p f L us).2 u∨u.t<p)
 | 0,L,us,_,h=>⟨h,fun u hu=>.inl hu⟩
 | f+1,L,us,hf,h=>by
  unfold endB
  by_cases c:(us.getD 0 u0).t<p
  ·rw [if_pos c]
   have hl:(popU us).length=us.length:=popU_len us
   have ht:((popU us).take f).length=f:=by rw [List.length_take];omega
   obtain ⟨r1,r2⟩:=endB_pi p f _ _ ht (h.pop hf)
   refine ⟨r1,fun u hu=>?_⟩
   obtain ⟨i,hi,e⟩:=(InU.prm (by rw [hf];exact (popU_prm hf).1) hl u).1 hu
   by_cases hif:i<f
   ·exact r2 u ⟨i,by omega,by rw [take_getD _ hif];exact e⟩
   ·have:i=f:=by omega
    subst this
    right
    rw [← e,(popU_prm hf).2]
    exact c
  ·rw [if_neg c]
   exact ⟨h,fun u hu=>.inl hu⟩
end
open Go.ChangeShapes Go.WideShapes Go.ChangeAt Go.RowKit Go.Joins
open Go.Deep
section
variable {H:Type} {enc:TypeId × Value→H} {P:Program} {w:World} {base:Nat} {spare:Nat→Bool} {held:Bool}
theorem open_slice_fields {t e:TypeId} {fs:Array Field} {fuel:Nat} {cs:List Value} {x:DataW H × List MemPlace} (ht:P.underlying t=some (.slice e)) (he:P.underlying e=some (.struct fs))
  (hone:oneCellFields P fs=true) (hC:P.cellsOf e=fs.size) (h:DataW.trod enc P w base spare held fuel t cs=some x) :
  (cs=[.slice none 0 0]∧x=(.nil,[])) ∨
  ∃ (a:Addr) (len cap m:Nat) (D:Nat→DataW H) (Pl:Nat→List MemPlace),cs=[.slice (some a) len cap]∧base≤a.block∧len≤cap∧cap≤maxLen∧m=(if spare a.block then cap else len) ∧
   x=(.slice ((List.range len).map D) ((List.range (m-len)).map fun j=>D (len+j)),MemPlace.row a (m*fs.size) ++ (List.range m).flatMap Pl) ∧
   ∀ i,i<m→∃ (ys:List (DataW H × List MemPlace)) (n:Nat),D i=.agg (ys.map (·.1))∧Pl i=ys.flatMap (·.2)∧ys.length=fs.size ∧
    ∀ (j:Nat) (f:Field),fs[j]?=some f→∃ (v:Value) (y:DataW H × List MemPlace),w.cell? (a.add (i*fs.size+j))=some v∧ys[j]?=some y∧DataW.trod enc P w base spare held n f.type [v]=some y:=by
 rcases open_slice ht h with h0 | ⟨a,len,cap,m,n,D,Pl,hcs,hb,hl,hm,hmm,hx,hi⟩
 ·exact .inl h0
 ·refine .inr ⟨a,len,cap,m,D,Pl,hcs,hb,hl,hm,hmm,by rw [hC] at hx;exact hx,fun i him=>?_⟩
  obtain ⟨cs',hc,ht'⟩:=hi i him
  rw [hC] at hc
  obtain ⟨ys,n',hn',hy,hlen,hyl,hf⟩:=DataW.trod_struct he ht'
  obtain ⟨_,hcl,hat⟩:=World.cells?_some hc
  simp only [Prod.mk.injEq] at hy
  refine ⟨ys,n',hy.1,hy.2,hyl,fun j f hj=>?_⟩
  obtain ⟨ho,hk⟩:=hone_of hone j f hj
  have hjl:j<fs.size:=(Array.getElem?_eq_some_iff.1 hj).1
  have hcell:=hat j hjl
  have hv:cs'[j]?=some (cs'[j]'(by omega)):=List.getElem?_eq_getElem (by omega)
  have h1:=hf j f hj
  rw [ho,hk] at h1
  have hone':(cs'.drop j).take 1=[cs'[j]'(by omega)]:=by
   rw [List.drop_eq_getElem_cons (by omega)]
   rfl
  rw [hone'] at h1
  have hys:ys[j]?=some (ys[j]'(by omega)):=List.getElem?_eq_getElem (by omega)
  refine ⟨_,_,?_,hys,h1.trans hys⟩
  rw [← Go.Deep.add_add,hcell,hv]
end
theorem row_of {α:Type} {P:Nat→α→Prop}:∀ (n:Nat),(∀ i,i<n→∃ x,P i x)→∃ l:List α,l.length=n∧∀ (i:Nat) (x:α),l[i]?=some x→P i x
 | 0,_=>⟨[],rfl,fun i x h=>by simp at h⟩
 | n+1,h=>by
  obtain ⟨l,hl,hP⟩:=row_of n fun i hi=>h i (by omega)
  obtain ⟨x,hx⟩:=h n (by omega)
  refine ⟨l ++ [x],by simp [hl],fun i y hy=>?_⟩
  rcases Nat.lt_trichotomy i n with h1 | h1 | h1
  ·rw [List.getElem?_append_left (by omega)] at hy
   exact hP i y hy
  ·subst h1
   rw [List.getElem?_append_right (by omega)] at hy
   simp [hl] at hy
   subst hy
   exact hx
  ·rw [List.getElem?_eq_none (by simp;omega)] at hy
   cases hy

theorem wf_i64 {n:Int} (h:(Lit.int .i64 n).wf=true):-9223372036854775808≤n∧n≤9223372036854775807:=by
 simp [Lit.wf,IntKind.min,IntKind.max,IntKind.signed,IntKind.bits] at h
 exact h
theorem wf_u64 {n:Int} (h:(Lit.int .u64 n).wf=true):0≤n∧n<18446744073709551616:=by
 simp [Lit.wf,IntKind.min,IntKind.max,IntKind.signed,IntKind.bits] at h
 omega

theorem wf_u8 {n:Int} (h:(Lit.int .u8 n).wf=true):0≤n∧n≤255:=by
 simp [Lit.wf,IntKind.min,IntKind.max,IntKind.signed,IntKind.bits] at h
 omega
theorem flat_inv {α:Type} (f:α→List Value) (m:Nat) (hm:0<m) (hf:∀ x,(f x).length=m) (l:List α) (j:Nat) (u:Value) (h:(l.flatMap f)[j]?=some u):∃ i x k,l[i]?=some x∧k<m∧j=i*m+k∧(f x)[k]?=some u:=by
 induction l generalizing j with
 | nil=>simp at h
 | cons y l ih =>
  rw [List.flatMap_cons] at h
  by_cases hj:j<m
  ·rw [List.getElem?_append_left (by rw [hf];exact hj)] at h
   exact ⟨0,y,j,rfl,hj,by omega,h⟩
  ·rw [List.getElem?_append_right (by rw [hf];omega),hf] at h
   obtain ⟨i,x,k,hx,hk,hjk,hu⟩:=ih (j-m) h
   exact ⟨i+1,x,k,by simpa using hx,hk,by rw [Nat.succ_mul];omega,hu⟩

section
variable {H:Type} {enc:TypeId × Value→H} {W:World}
theorem block_of_cell {W:World} {a:Addr} {u:Value} (h:W.cell? (a.add 0)=some u):a.block<W.heap.size:=by
 rcases Nat.lt_or_ge a.block W.heap.size with hlt | hge
 ·exact hlt
 ·have:a.add 0=a:=by simp [Addr.add]
  rw [this] at h
  simp [World.cell?,Array.getElem?_eq_none hge] at h

theorem open_u8 {t e:TypeId} (ht:Tryz.prog.underlying t=some (.slice e)) (he:Tryz.prog.underlying e=some (.int .u8)) (hc1:Tryz.prog.cellsOf e=1) {fuel:Nat} {cs:List Value} {x:DataW H × List MemPlace}
  (h:DataW.trod enc Tryz.prog W 0 (fun _=>true) true fuel t cs=some x) :
  ∃ (ao:Option Addr) (c:Nat) (l:List Int),cs=[.slice ao l.length c]∧Reads W W.heap.size 1 ao l.length (u8c l)∧Byt l∧l.length≤c∧c≤maxLen∧(ao=none→c=0) ∧
   ((x.1=.nil∧c=0)∨∃ elems spare,x.1=.slice elems spare∧elems.length+spare.length=c):=by
 rcases open_ints ht he hc1 h with ⟨hcs,hx⟩ | ⟨a,len,cap,zs,hcs,_,hl,hm,hz,hx,hcell,hwz⟩
 ·exact ⟨none,0,[],hcs,Reads.none_,Byt.nil,Nat.le_refl _,Nat.zero_le _,fun _=>rfl,.inl ⟨by rw [hx],rfl⟩⟩
 ·simp only [if_true] at hz
  have hlen:(zs.take len).length=len:=by simp;omega
  refine ⟨some a,cap,zs.take len,by rw [hlen];exact hcs,?_,fun y hy=>wf_u8 (hwz y (List.mem_of_mem_take hy)),by rw [hlen];exact hl,hm,(fun h=>by cases h),.inr ⟨_,_,by rw [hx],by simp [lits];omega⟩⟩
  rw [hlen]
  refine ⟨by rw [length_u8c,hlen];simp,fun hn=>⟨a,rfl,block_of_cell (hcell 0 (by omega)),fun j u hu=>?_⟩⟩
  unfold u8c at hu
  rw [List.getElem?_map] at hu
  have hjl:j<(zs.take len).length:=by
   rcases Nat.lt_or_ge j (zs.take len).length with h1 | h1
   ·exact h1
   ·rw [List.getElem?_eq_none h1] at hu;cases hu
  have hjz:j<zs.length:=by simp at hjl;omega
  have hjn:j<len:=by simp at hjl;omega
  rw [hcell j hjz,← hu,List.getElem?_take,if_pos hjn,List.getElem?_eq_getElem hjz]
  simp [List.getD,hjz]

theorem open_i64 {t e:TypeId} (ht:Tryz.prog.underlying t=some (.slice e)) (he:Tryz.prog.underlying e=some (.int .i64)) (hc1:Tryz.prog.cellsOf e=1) {fuel:Nat} {cs:List Value} {x:DataW H × List MemPlace}
  (h:DataW.trod enc Tryz.prog W 0 (fun _=>true) true fuel t cs=some x) :
  ∃ (ao:Option Addr) (c:Nat) (l:List Int),cs=[.slice ao l.length c]∧Reads W W.heap.size 1 ao l.length (i64c l)∧(∀ y ∈ l,I64 y)∧l.length≤c∧c≤maxLen∧(ao=none→c=0) ∧
   ((x.1=.nil∧c=0)∨∃ elems spare,x.1=.slice elems spare∧elems.length+spare.length=c):=by
 rcases open_ints ht he hc1 h with ⟨hcs,hx⟩ | ⟨a,len,cap,zs,hcs,_,hl,hm,hz,hx,hcell,hwz⟩
 ·exact ⟨none,0,[],hcs,Reads.none_,(fun _ h=>by cases h),Nat.le_refl _,Nat.zero_le _,fun _=>rfl,.inl ⟨by rw [hx],rfl⟩⟩
 ·simp only [if_true] at hz
  have hlen:(zs.take len).length=len:=by simp;omega
  refine ⟨some a,cap,zs.take len,by rw [hlen];exact hcs,?_,fun y hy=>wf_i64 (hwz y (List.mem_of_mem_take hy)),by rw [hlen];exact hl,hm,(fun h=>by cases h),.inr ⟨_,_,by rw [hx],by simp [lits];omega⟩⟩
  rw [hlen]
  refine ⟨by rw [length_i64c,hlen];simp,fun hn=>⟨a,rfl,block_of_cell (hcell 0 (by omega)),fun j u hu=>?_⟩⟩
  unfold i64c at hu
  rw [List.getElem?_map] at hu
  have hjl:j<(zs.take len).length:=by
   rcases Nat.lt_or_ge j (zs.take len).length with h1 | h1
   ·exact h1
   ·rw [List.getElem?_eq_none h1] at hu;cases hu
  have hjz:j<zs.length:=by simp at hjl;omega
  have hjn:j<len:=by simp at hjl;omega
  rw [hcell j hjz,← hu,List.getElem?_take,if_pos hjn,List.getElem?_eq_getElem hjz]
  simp [List.getD,hjz]

def Small (t:TypeId) (d:DataW H):Prop:=∀ x ∈ d.weights Tryz.prog t,x≤reachBytes
theorem small_slice {t e:TypeId} {elems spare:List (DataW H)} {b:Nat} (h:Small t (DataW.slice elems spare)) (ht:Tryz.prog.underlying t=some (.slice e)) (hb:Tryz.prog.bytesOf e=b):(elems.length+spare.length)*b≤140737488351232:=by
 have:=h ((elems.length+spare.length)*Tryz.prog.bytesOf e) (by simp [DataW.weights,ht])
 rw [hb] at this
 simpa [reachBytes] using this
theorem mem_weightsAll {P:Program} {e:TypeId} {d:DataW H} {l:List (DataW H)} (hd:d ∈ l) {x:Nat} (hx:x ∈ d.weights P e):x ∈ DataW.weightsAll P e l:=by
 induction l with
 | nil=>cases hd
 | cons y l ih =>
  rw [DataW.weightsAll,List.mem_append]
  rcases List.mem_cons.1 hd with rfl | hd
  ·exact .inl hx
  ·exact .inr (ih hd)
theorem small_elem {t e:TypeId} {elems spare:List (DataW H)} (h:Small t (DataW.slice elems spare)) (ht:Tryz.prog.underlying t=some (.slice e)) {d:DataW H} (hd:d ∈ elems):Small e d:=by
 intro x hx
 refine h x ?_
 simp only [DataW.weights,ht,List.mem_cons,List.mem_append]
 exact .inr (.inl (mem_weightsAll hd hx))
theorem small_field {t:TypeId} {fs:Array Field} {parts:List (DataW H)} (h:Small t (DataW.agg parts)) (ht:Tryz.prog.underlying t=some (.struct fs)) {j:Nat} {f:Field} {d:DataW H} (hf:(fs.toList.map (·.type))[j]?=some f.type) (hd:parts[j]?=some d):Small f.type d:=by
 intro x hx
 refine h x ?_
 simp only [DataW.weights,ht]
 exact DataW.weights_mem_each hf hd x hx

theorem open_nodes {fuel:Nat} {cs:List Value} {x:DataW H × List MemPlace} (h:DataW.trod enc Tryz.prog W 0 (fun _=>true) true fuel 33 cs=some x) (hs:Small 33 x.1) :
  ∃ (ao:Option Addr) (n c:Nat) (ns:List RN),cs=[.slice ao n c]∧RdNs W W.heap.size ao n ns∧n*104≤140737488351232:=by
 rcases open_slice_fields Tryz.underlying33 Tryz.underlying47 (by kernel_rfl) (by kernel_rfl) h with ⟨hcs,hx⟩ | ⟨a,len,cap,m,D,Pl,hcs,_,hl,hm,hmm,hx,hi⟩
 ·exact ⟨none,0,0,[],hcs,⟨Reads.none_,rfl,(fun r hr=>by cases hr),(fun r hr=>by cases hr)⟩,by omega⟩
 ·simp only [if_true] at hmm
  subst hmm
  rw [hx] at hs
  have hsz:=small_slice hs Tryz.underlying33 (show Tryz.prog.bytesOf 47=104 by kernel_rfl)
  obtain ⟨l,hll,hlp⟩:=row_of (P:=fun i (x:RN)=>RdN W W.heap.size x∧WfN x.nd∧W.cell? (a.add (i*12))=some (.int .u8 x.nd.op)∧W.cell? (a.add (i*12+1))=some (.int .u8 x.nd.bop)∧W.cell? (a.add (i*12+2))=some (.int .i64 x.nd.d)∧W.cell? (a.add (i*12+3))=some (.int .i64 x.nd.e)∧W.cell? (a.add (i*12+4))=some (.int .i64 x.nd.a)∧W.cell? (a.add (i*12+5))=some (.int .i64 x.nd.b)∧W.cell? (a.add (i*12+6))=some (.int .i64 x.nd.f)∧W.cell? (a.add (i*12+7))=some (.int .i64 x.nd.cell)∧W.cell? (a.add (i*12+8))=some (.int .u64 x.nd.imm)∧W.cell? (a.add (i*12+9))=some (.slice x.ao x.nd.args.length x.ac)∧W.cell? (a.add (i*12+10))=some (.int .i64 x.nd.next)∧W.cell? (a.add (i*12+11))=some (.int .i64 x.nd.els)) len (fun i hin=>by
   obtain ⟨ys,k,hD,_,hyl,hj⟩:=hi i (by omega)
   have hsi:Small 47 (D i):=small_elem hs Tryz.underlying33 (List.mem_map.2 ⟨i,List.mem_range.2 hin,rfl⟩)
   rw [hD] at hsi
   obtain ⟨v0,y0,hc0,hy0,ht0⟩:=hj 0 _ rfl
   obtain ⟨v1,y1,hc1,hy1,ht1⟩:=hj 1 _ rfl
   obtain ⟨v2,y2,hc2,hy2,ht2⟩:=hj 2 _ rfl
   obtain ⟨v3,y3,hc3,hy3,ht3⟩:=hj 3 _ rfl
   obtain ⟨v4,y4,hc4,hy4,ht4⟩:=hj 4 _ rfl
   obtain ⟨v5,y5,hc5,hy5,ht5⟩:=hj 5 _ rfl
   obtain ⟨v6,y6,hc6,hy6,ht6⟩:=hj 6 _ rfl
   obtain ⟨v7,y7,hc7,hy7,ht7⟩:=hj 7 _ rfl
   obtain ⟨v8,y8,hc8,hy8,ht8⟩:=hj 8 _ rfl
   obtain ⟨v9,y9,hc9,hy9,ht9⟩:=hj 9 _ rfl
   obtain ⟨v10,y10,hc10,hy10,ht10⟩:=hj 10 _ rfl
   obtain ⟨v11,y11,hc11,hy11,ht11⟩:=hj 11 _ rfl
   obtain ⟨n0,e0,_,w0⟩:=DataW.trod_int Tryz.underlying43 ht0
   obtain ⟨n1,e1,_,w1⟩:=DataW.trod_int Tryz.underlying44 ht1
   obtain ⟨n2,e2,_,w2⟩:=DataW.trod_int Tryz.underlying3 ht2
   obtain ⟨n3,e3,_,w3⟩:=DataW.trod_int Tryz.underlying3 ht3
   obtain ⟨n4,e4,_,w4⟩:=DataW.trod_int Tryz.underlying3 ht4
   obtain ⟨n5,e5,_,w5⟩:=DataW.trod_int Tryz.underlying3 ht5
   obtain ⟨n6,e6,_,w6⟩:=DataW.trod_int Tryz.underlying3 ht6
   obtain ⟨n7,e7,_,w7⟩:=DataW.trod_int Tryz.underlying3 ht7
   obtain ⟨n8,e8,_,w8⟩:=DataW.trod_int Tryz.underlying45 ht8
   obtain ⟨ao,ac,xs9,e9,hr9,hw9,hac,_,_,hd9⟩:=open_i64 Tryz.underlying26 Tryz.underlying3 (by kernel_rfl) ht9
   obtain ⟨n10,e10,_,w10⟩:=DataW.trod_int Tryz.underlying3 ht10
   obtain ⟨n11,e11,_,w11⟩:=DataW.trod_int Tryz.underlying3 ht11
   have s9:Small 26 y9.1:=small_field hsi Tryz.underlying47 (j:=9) rfl (by rw [List.getElem?_map,hy9];rfl)
   have b9:xs9.length*8≤140737488351232:=by
    rcases hd9 with ⟨_,h0⟩ | ⟨elems,spare,he,hc⟩
    ·omega
    ·rw [he] at s9
     have:=small_slice s9 Tryz.underlying26 (show Tryz.prog.bytesOf 3=8 by kernel_rfl)
     omega
   have h0:=wf_u8 w0
   have h1:=wf_u8 w1
   have h2:=wf_i64 w2
   have h3:=wf_i64 w3
   have h4:=wf_i64 w4
   have h5:=wf_i64 w5
   have h6:=wf_i64 w6
   have h7:=wf_i64 w7
   have h8:=wf_u64 w8
   have h10:=wf_i64 w10
   have h11:=wf_i64 w11
   simp only [List.cons.injEq,and_true] at e0 e1 e2 e3 e4 e5 e6 e7 e8 e9 e10 e11
   subst e0 e1 e2 e3 e4 e5 e6 e7 e8 e9 e10 e11
   exact ⟨⟨⟨n0,n1,n2,n3,n4,n5,n6,n7,n8,xs9,n10,n11⟩,ao,ac⟩,⟨hr9,hac⟩,⟨h0.1,h0.2,h1.1,h1.2,h2,h3,h4,h5,h6,h7,h8.1,by show n8≤_;omega,hw9,h10,h11,b9⟩,hc0,hc1,hc2,hc3,hc4,hc5,hc6,hc7,hc8,hc9,hc10,hc11⟩)
  refine ⟨some a,len,m,l,hcs,⟨⟨by rw [length_rnc,hll],fun hn=>⟨a,rfl,?_,fun j u hu=>?_⟩⟩,hll,fun r hr=>?_,fun r hr=>?_⟩,?_⟩
  ·obtain ⟨x,hx0⟩:∃ x,l[0]?=some x:=⟨_,List.getElem?_eq_getElem (by omega)⟩
   exact block_of_cell (hlp 0 x hx0).2.2.1
  ·obtain ⟨i,x,k,hxi,hk,rfl,hv⟩:=flat_inv rnOne 12 (by omega) (fun _=>rfl) l j u hu
   have hp:=hlp i x hxi
   obtain rfl | rfl | rfl | rfl | rfl | rfl | rfl | rfl | rfl | rfl | rfl | rfl:k=0∨k=1∨k=2∨k=3∨k=4∨k=5∨k=6∨k=7∨k=8∨k=9∨k=10∨k=11:=by omega
   ·rw [← hv];exact hp.2.2.1
   ·rw [← hv];exact hp.2.2.2.1
   ·rw [← hv];exact hp.2.2.2.2.1
   ·rw [← hv];exact hp.2.2.2.2.2.1
   ·rw [← hv];exact hp.2.2.2.2.2.2.1
   ·rw [← hv];exact hp.2.2.2.2.2.2.2.1
   ·rw [← hv];exact hp.2.2.2.2.2.2.2.2.1
   ·rw [← hv];exact hp.2.2.2.2.2.2.2.2.2.1
   ·rw [← hv];exact hp.2.2.2.2.2.2.2.2.2.2.1
   ·rw [← hv];exact hp.2.2.2.2.2.2.2.2.2.2.2.1
   ·rw [← hv];exact hp.2.2.2.2.2.2.2.2.2.2.2.2.1
   ·rw [← hv];exact hp.2.2.2.2.2.2.2.2.2.2.2.2.2
  ·obtain ⟨i,hil,rfl⟩:=List.getElem_of_mem hr
   exact (hlp i _ (List.getElem?_eq_getElem hil)).1
  ·obtain ⟨i,hil,rfl⟩:=List.getElem_of_mem hr
   exact (hlp i _ (List.getElem?_eq_getElem hil)).2.1
  ·simp at hsz
   have:=Nat.mul_le_mul_right 104 hl
   omega

theorem open_graphs {fuel:Nat} {cs:List Value} {x:DataW H × List MemPlace} (h:DataW.trod enc Tryz.prog W 0 (fun _=>true) true fuel 22 cs=some x) (hs:Small 22 x.1) :
  ∃ (ao:Option Addr) (n c:Nat) (rs:List RG),cs=[.slice ao n c]∧RdP W W.heap.size ao n rs:=by
 rcases open_slice_fields Tryz.underlying22 Tryz.underlying35 (by kernel_rfl) (by kernel_rfl) h with ⟨hcs,hx⟩ | ⟨a,len,cap,m,D,Pl,hcs,_,hl,hm,hmm,hx,hi⟩
 ·exact ⟨none,0,0,[],hcs,⟨Reads.none_,rfl,(fun r hr=>by cases hr),(fun r hr=>by cases hr),by omega⟩⟩
 ·simp only [if_true] at hmm
  subst hmm
  rw [hx] at hs
  have hsz:=small_slice hs Tryz.underlying22 (show Tryz.prog.bytesOf 35=128 by kernel_rfl)
  obtain ⟨l,hll,hlp⟩:=row_of (P:=fun i (r:RG)=>RdG W W.heap.size r∧WfG r.gr∧W.cell? (a.add (i*8))=some (.slice r.po r.gr.params.length r.pc)∧W.cell? (a.add (i*8+1))=some (.slice r.ko r.gr.kinds.length r.kc)∧W.cell? (a.add (i*8+2))=some (.int .i64 r.gr.cells)∧W.cell? (a.add (i*8+3))=some (.slice r.io r.gr.init.length r.ic)∧W.cell? (a.add (i*8+4))=some (.bool r.gr.result)∧W.cell? (a.add (i*8+5))=some (.int .i64 r.gr.keep)∧W.cell? (a.add (i*8+6))=some (.slice r.no r.gr.nodes.length r.nc)∧W.cell? (a.add (i*8+7))=some (.int .i64 r.gr.entry)) len (fun i hin=>by
   obtain ⟨ys,k,hD,_,hyl,hj⟩:=hi i (by omega)
   have hsi:Small 35 (D i):=small_elem hs Tryz.underlying22 (List.mem_map.2 ⟨i,List.mem_range.2 hin,rfl⟩)
   rw [hD] at hsi
   obtain ⟨v0,y0,hc0,hy0,ht0⟩:=hj 0 _ rfl
   obtain ⟨v1,y1,hc1,hy1,ht1⟩:=hj 1 _ rfl
   obtain ⟨v2,y2,hc2,hy2,ht2⟩:=hj 2 _ rfl
   obtain ⟨v3,y3,hc3,hy3,ht3⟩:=hj 3 _ rfl
   obtain ⟨v4,y4,hc4,hy4,ht4⟩:=hj 4 _ rfl
   obtain ⟨v5,y5,hc5,hy5,ht5⟩:=hj 5 _ rfl
   obtain ⟨v6,y6,hc6,hy6,ht6⟩:=hj 6 _ rfl
   obtain ⟨v7,y7,hc7,hy7,ht7⟩:=hj 7 _ rfl
   have s0:Small 26 y0.1:=small_field hsi Tryz.underlying35 (j:=0) rfl (by rw [List.getElem?_map,hy0];rfl)
   obtain ⟨o0,c0,l0,e0,r0,w0,cap0,_,_,d0⟩:=open_i64 Tryz.underlying26 Tryz.underlying3 (by kernel_rfl) ht0
   have s1:Small 32 y1.1:=small_field hsi Tryz.underlying35 (j:=1) rfl (by rw [List.getElem?_map,hy1];rfl)
   obtain ⟨o1,c1,l1,e1,r1,w1,cap1,_,_,d1⟩:=open_u8 Tryz.underlying32 Tryz.underlying42 (by kernel_rfl) ht1
   obtain ⟨n2,e2,_,w2⟩:=DataW.trod_int Tryz.underlying3 ht2
   have s3:Small 26 y3.1:=small_field hsi Tryz.underlying35 (j:=3) rfl (by rw [List.getElem?_map,hy3];rfl)
   obtain ⟨o3,c3,l3,e3,r3,w3,cap3,_,_,d3⟩:=open_i64 Tryz.underlying26 Tryz.underlying3 (by kernel_rfl) ht3
   obtain ⟨n4,e4,_⟩:=DataW.trod_bool Tryz.underlying4 ht4
   obtain ⟨n5,e5,_,w5⟩:=DataW.trod_int Tryz.underlying3 ht5
   have s6:Small 33 y6.1:=small_field hsi Tryz.underlying35 (j:=6) rfl (by rw [List.getElem?_map,hy6];rfl)
   obtain ⟨o6,n6,c6,ns,e6,r6,b6⟩:=open_nodes ht6 s6
   obtain ⟨n7,e7,_,w7⟩:=DataW.trod_int Tryz.underlying3 ht7
   have b0:l0.length*8≤140737488351232:=by
    rcases d0 with ⟨_,h0⟩ | ⟨elems,spare,he,hc⟩
    ·omega
    ·rw [he] at s0
     have:=small_slice s0 Tryz.underlying26 (show Tryz.prog.bytesOf 3=8 by kernel_rfl)
     omega
   have b1:l1.length*1≤140737488351232:=by
    rcases d1 with ⟨_,h0⟩ | ⟨elems,spare,he,hc⟩
    ·omega
    ·rw [he] at s1
     have:=small_slice s1 Tryz.underlying32 (show Tryz.prog.bytesOf 42=1 by kernel_rfl)
     omega
   have b3:l3.length*8≤140737488351232:=by
    rcases d3 with ⟨_,h0⟩ | ⟨elems,spare,he,hc⟩
    ·omega
    ·rw [he] at s3
     have:=small_slice s3 Tryz.underlying26 (show Tryz.prog.bytesOf 3=8 by kernel_rfl)
     omega
   have h2:=wf_i64 w2
   have h5:=wf_i64 w5
   have h7:=wf_i64 w7
   have hnl:(nds ns).length=n6:=by rw [length_nds,r6.len]
   have hwn:∀ i ∈ nds ns,WfN i:=fun i hi=>by
    obtain ⟨z,hz,rfl⟩:=List.mem_map.1 hi
    exact r6.wf z hz
   simp only [List.cons.injEq,and_true] at e0 e1 e2 e3 e4 e5 e6 e7
   subst e0 e1 e2 e3 e4 e5 e6 e7
   subst hnl
   exact ⟨⟨⟨l0,l1,n2,l3,n4,n5,nds ns,n7⟩,o0,c0,o1,c1,o3,c3,o6,c6,ns⟩,⟨r0,r1,r3,r6,rfl,cap0⟩,⟨w0,w1,h2,w3,h5,hwn,h7,b0,by simpa using b1,b3,b6⟩,hc0,hc1,hc2,hc3,hc4,hc5,hc6,hc7⟩)
  refine ⟨some a,len,m,l,hcs,⟨⟨by rw [length_rgc,hll],fun hn=>⟨a,rfl,?_,fun j u hu=>?_⟩⟩,hll,fun r hr=>?_,fun r hr=>?_,?_⟩⟩
  ·obtain ⟨x,hx0⟩:∃ x,l[0]?=some x:=⟨_,List.getElem?_eq_getElem (by omega)⟩
   exact block_of_cell (hlp 0 x hx0).2.2.1
  ·obtain ⟨i,x,k,hxi,hk,rfl,hv⟩:=flat_inv rgOne 8 (by omega) (fun _=>rfl) l j u hu
   have hp:=hlp i x hxi
   obtain rfl | rfl | rfl | rfl | rfl | rfl | rfl | rfl:k=0∨k=1∨k=2∨k=3∨k=4∨k=5∨k=6∨k=7:=by omega
   ·rw [← hv];exact hp.2.2.1
   ·rw [← hv];exact hp.2.2.2.1
   ·rw [← hv];exact hp.2.2.2.2.1
   ·rw [← hv];exact hp.2.2.2.2.2.1
   ·rw [← hv];exact hp.2.2.2.2.2.2.1
   ·rw [← hv];exact hp.2.2.2.2.2.2.2.1
   ·rw [← hv];exact hp.2.2.2.2.2.2.2.2.1
   ·rw [← hv];exact hp.2.2.2.2.2.2.2.2.2
  ·obtain ⟨i,hil,rfl⟩:=List.getElem_of_mem hr
   exact (hlp i _ (List.getElem?_eq_getElem hil)).1
  ·obtain ⟨i,hil,rfl⟩:=List.getElem_of_mem hr
   exact (hlp i _ (List.getElem?_eq_getElem hil)).2.1
  ·simp at hsz
   have:=Nat.mul_le_mul_right 128 hl
   omega

theorem open_prog {base:Nat} {v:Value} {d:DataW H} {p:List MemPlace} (hv:Value.okWide Tryz.prog W .any base 24 v) (h:DataW.Trod enc Tryz.prog W 0 (fun _=>true) true 24 v d p) (hs:Small 24 d) :
  ∃ (ao:Option Addr) (n c:Nat) (rs:List RG),v=.agg #[.slice ao n c]∧RdP W W.heap.size ao n rs:=by
 obtain ⟨cs,rfl,hsz⟩:=okWide_struct Tryz.underlying24 hv
 obtain ⟨l⟩:=cs
 match l,hsz.trans (show Tryz.prog.cellsOf 24=1 by kernel_rfl) with
 | [c0],_ =>
  obtain ⟨fuel,hf⟩:=h
  obtain ⟨xs,n,_,hx,_,hlen,hg⟩:=DataW.trod_struct Tryz.underlying24 hf
  match xs,hlen with
  | [y0],_ =>
   simp only [Prod.mk.injEq] at hx
   have h0:DataW.trod enc Tryz.prog W 0 (fun _=>true) true n 22 [c0]=some y0:=by
    have:=hg 0 _ rfl
    simpa [Value.cells,show Tryz.prog.cellsOf 22=1 by kernel_rfl] using this
   rw [hx.1] at hs
   have s0:Small 22 y0.1:=small_field hs Tryz.underlying24 (j:=0) rfl rfl
   obtain ⟨ao,m,c,rs,e,hr⟩:=open_graphs h0 s0
   simp only [List.cons.injEq,and_true] at e
   subst e
   exact ⟨ao,m,c,rs,rfl,hr⟩
theorem open_node {base:Nat} {v:Value} {d:DataW H} {p:List MemPlace} (hv:Value.okWide Tryz.prog W .any base 47 v) (h:DataW.Trod enc Tryz.prog W 0 (fun _=>true) true 47 v d p) (hs:Small 47 d) :
  ∃ x:RN,v=.agg (rnOne x).toArray∧RdN W W.heap.size x∧WfN x.nd:=by
 obtain ⟨cs,rfl,hsz⟩:=okWide_struct Tryz.underlying47 hv
 obtain ⟨l⟩:=cs
 match l,hsz.trans (show Tryz.prog.cellsOf 47=12 by kernel_rfl) with
 | [u0,u1,u2,u3,u4,u5,u6,u7,u8,u9,u10,u11],_ =>
  obtain ⟨fuel,hf⟩:=h
  obtain ⟨ys,n,_,hx,_,hlen,hg⟩:=DataW.trod_struct Tryz.underlying47 hf
  match ys,hlen with
  | [y0,y1,y2,y3,y4,y5,y6,y7,y8,y9,y10,y11],_ =>
   simp only [Prod.mk.injEq] at hx
   rw [hx.1] at hs
   have ht0:DataW.trod enc Tryz.prog W 0 (fun _=>true) true n 43 [u0]=some y0:=by
    have:=hg 0 _ rfl
    simpa [Value.cells,show Tryz.prog.cellsOf 43=1 by kernel_rfl] using this
   have ht1:DataW.trod enc Tryz.prog W 0 (fun _=>true) true n 44 [u1]=some y1:=by
    have:=hg 1 _ rfl
    simpa [Value.cells,show Tryz.prog.cellsOf 44=1 by kernel_rfl] using this
   have ht2:DataW.trod enc Tryz.prog W 0 (fun _=>true) true n 3 [u2]=some y2:=by
    have:=hg 2 _ rfl
    simpa [Value.cells,show Tryz.prog.cellsOf 3=1 by kernel_rfl] using this
   have ht3:DataW.trod enc Tryz.prog W 0 (fun _=>true) true n 3 [u3]=some y3:=by
    have:=hg 3 _ rfl
    simpa [Value.cells,show Tryz.prog.cellsOf 3=1 by kernel_rfl] using this
   have ht4:DataW.trod enc Tryz.prog W 0 (fun _=>true) true n 3 [u4]=some y4:=by
    have:=hg 4 _ rfl
    simpa [Value.cells,show Tryz.prog.cellsOf 3=1 by kernel_rfl] using this
   have ht5:DataW.trod enc Tryz.prog W 0 (fun _=>true) true n 3 [u5]=some y5:=by
    have:=hg 5 _ rfl
    simpa [Value.cells,show Tryz.prog.cellsOf 3=1 by kernel_rfl] using this
   have ht6:DataW.trod enc Tryz.prog W 0 (fun _=>true) true n 3 [u6]=some y6:=by
    have:=hg 6 _ rfl
    simpa [Value.cells,show Tryz.prog.cellsOf 3=1 by kernel_rfl] using this
   have ht7:DataW.trod enc Tryz.prog W 0 (fun _=>true) true n 3 [u7]=some y7:=by
    have:=hg 7 _ rfl
    simpa [Value.cells,show Tryz.prog.cellsOf 3=1 by kernel_rfl] using this
   have ht8:DataW.trod enc Tryz.prog W 0 (fun _=>true) true n 45 [u8]=some y8:=by
    have:=hg 8 _ rfl
    simpa [Value.cells,show Tryz.prog.cellsOf 45=1 by kernel_rfl] using this
   have ht9:DataW.trod enc Tryz.prog W 0 (fun _=>true) true n 26 [u9]=some y9:=by
    have:=hg 9 _ rfl
    simpa [Value.cells,show Tryz.prog.cellsOf 26=1 by kernel_rfl] using this
   have ht10:DataW.trod enc Tryz.prog W 0 (fun _=>true) true n 3 [u10]=some y10:=by
    have:=hg 10 _ rfl
    simpa [Value.cells,show Tryz.prog.cellsOf 3=1 by kernel_rfl] using this
   have ht11:DataW.trod enc Tryz.prog W 0 (fun _=>true) true n 3 [u11]=some y11:=by
    have:=hg 11 _ rfl
    simpa [Value.cells,show Tryz.prog.cellsOf 3=1 by kernel_rfl] using this
   obtain ⟨n0,e0,_,w0⟩:=DataW.trod_int Tryz.underlying43 ht0
   obtain ⟨n1,e1,_,w1⟩:=DataW.trod_int Tryz.underlying44 ht1
   obtain ⟨n2,e2,_,w2⟩:=DataW.trod_int Tryz.underlying3 ht2
   obtain ⟨n3,e3,_,w3⟩:=DataW.trod_int Tryz.underlying3 ht3
   obtain ⟨n4,e4,_,w4⟩:=DataW.trod_int Tryz.underlying3 ht4
   obtain ⟨n5,e5,_,w5⟩:=DataW.trod_int Tryz.underlying3 ht5
   obtain ⟨n6,e6,_,w6⟩:=DataW.trod_int Tryz.underlying3 ht6
   obtain ⟨n7,e7,_,w7⟩:=DataW.trod_int Tryz.underlying3 ht7
   obtain ⟨n8,e8,_,w8⟩:=DataW.trod_int Tryz.underlying45 ht8
   obtain ⟨ao,ac,xs9,e9,hr9,hw9,hac,_,_,hd9⟩:=open_i64 Tryz.underlying26 Tryz.underlying3 (by kernel_rfl) ht9
   obtain ⟨n10,e10,_,w10⟩:=DataW.trod_int Tryz.underlying3 ht10
   obtain ⟨n11,e11,_,w11⟩:=DataW.trod_int Tryz.underlying3 ht11
   have s9:Small 26 y9.1:=small_field hs Tryz.underlying47 (j:=9) rfl rfl
   have b9:xs9.length*8≤140737488351232:=by
    rcases hd9 with ⟨_,h0⟩ | ⟨elems,spare,he,hc⟩
    ·omega
    ·rw [he] at s9
     have:=small_slice s9 Tryz.underlying26 (show Tryz.prog.bytesOf 3=8 by kernel_rfl)
     omega
   have h0:=wf_u8 w0
   have h1:=wf_u8 w1
   have h2:=wf_i64 w2
   have h3:=wf_i64 w3
   have h4:=wf_i64 w4
   have h5:=wf_i64 w5
   have h6:=wf_i64 w6
   have h7:=wf_i64 w7
   have h8:=wf_u64 w8
   have h10:=wf_i64 w10
   have h11:=wf_i64 w11
   simp only [List.cons.injEq,and_true] at e0 e1 e2 e3 e4 e5 e6 e7 e8 e9 e10 e11
   subst e0 e1 e2 e3 e4 e5 e6 e7 e8 e9 e10 e11
   exact ⟨⟨⟨n0,n1,n2,n3,n4,n5,n6,n7,n8,xs9,n10,n11⟩,ao,ac⟩,rfl,⟨hr9,hac⟩,⟨h0.1,h0.2,h1.1,h1.2,h2,h3,h4,h5,h6,h7,h8.1,by show n8≤_;omega,hw9,h10,h11,b9⟩⟩
end
theorem gTz : Tryz.prog.globalNamed "math/bits.deBruijn64tab" = some 0 := by kernel_rfl
theorem gTzType:(Tryz.prog.globals[0]?).map (·.type)=some 163:=by kernel_rfl
theorem tz_data:(Rows.laid_math_bits_deBruijn64tab:DataW Unit)=Lib.tabData .u8 (Lib.deBruijn64tab.map fun x:Nat=>(x:Int)):=by kernel_rfl
theorem tz_tab {W : World} (h : laidMet Tryz.prog [("math/bits.deBruijn64tab", Rows.laid_math_bits_deBruijn64tab)] W) : TzTab W := by
 rw [tz_data] at h
 have ht:=Lib.tabIs_of_head gTz gTzType Tryz.underlying163 Tryz.underlying5 (by kernel_rfl) (by kernel_rfl) h
 intro j hj
 have hl:Lib.deBruijn64tab.length=64:=by decide
 have h1:=ht.cell gTz j (by rw [List.length_map,hl];exact hj)
 rw [h1]
 rw [List.getD_eq_getElem?_getD,List.getElem?_map,List.getD_eq_getElem?_getD,List.getElem?_eq_getElem (by rw [hl];exact hj)]
 rfl
end Go.Proofs.YtedmcfaghfgpoaaGreatDoor
