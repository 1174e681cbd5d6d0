/-
  Texts of one seat, one behind the other: OIv, ODel, OVis, ORev, LCk.
-/
import Derived.Deep.OwnRows
import Derived.Lib.SliceRun
import Derived.Deep.CutBlock
import Derived.Deep.DeepCutAuto
import Derived.Deep.RegionLaw
import Derived.StillTailTactics
import Derived.RegionTactic
import Derived.Test.YtepkogfiojkcpaaDoorMA4
import Derived.Test.YtepkogfiojkcpaaDoorMA5
import Derived.Test.YtepkogfiojkcpaaDoorMA12
import Derived.Test.YtepkogfiojkcpaaDoorMA6
import Derived.Test.YtepkogfiojkcpaaDoorMA3

set_option linter.unusedVariables false
set_option linter.unusedSimpArgs false
set_option maxRecDepth 100000
set_option maxHeartbeats 51200000
namespace Go.Proofs.YtepkogfiojkcpaaDoor
open Go.ChangeShapes Go.WideShapes Go.ChangeAt Go.RowKit
def ivX (s:Iv) (j:Nat):Value:=if j=0 then .int .i64 s.p else if j=1 then .int .i64 s.f else if j=2 then .int .i64 s.t else .bool s.h
def ivA (m:Nat) (g:Nat→Iv):Array Value:=rowA (m*4) fun i=>ivX (g (i / 4)) (i % 4)
theorem ivA_at (g:Nat→Iv) {m p j:Nat} (hp:p<m) (hj:j<4):(ivA m g)[p*4+j]?=some (ivX (g p) j):=by
 unfold ivA
 rw [rowA_at _ (show p*4+j<m*4 by omega),show (p*4+j) / 4=p by omega,show (p*4+j) % 4=j by omega]
theorem ivA_set (g:Nat→Iv) {m p j:Nat} {u:Value} {s:Iv} (hj:j<4) (h:∀ k,k<4→ivX s k=if k=j then u else ivX (g p) k):(ivA m g).setIfInBounds (p*4+j) u=ivA m (upd g p s):=by
 unfold ivA
 rw [rowA_set]
 refine rowA_congr fun i hi=>?_
 unfold upd
 simp only
 by_cases e:i=p*4+j
 ·subst e
  rw [if_pos rfl,show (p*4+j) / 4=p by omega,show (p*4+j) % 4=j by omega,if_pos rfl,h j hj,if_pos rfl]
 ·rw [if_neg e]
  by_cases e2:i / 4=p
  ·rw [if_pos e2,h _ (Nat.mod_lt _ (by decide)),if_neg (by omega),e2]
  ·rw [if_neg e2]
theorem ivA_f (g:Nat→Iv) (m p:Nat) (x:Int):(ivA m g).setIfInBounds (p*4+1) (.int .i64 x)=ivA m (upd g p ⟨(g p).p,x,(g p).t,(g p).h⟩) :=
 ivA_set g (by decide) fun k hk=>by
  rcases (by omega:k=0∨k=1∨k=2∨k=3) with rfl | rfl | rfl | rfl <;> rfl
theorem ivA_t (g:Nat→Iv) (m p:Nat) (x:Int):(ivA m g).setIfInBounds (p*4+2) (.int .i64 x)=ivA m (upd g p ⟨(g p).p,(g p).f,x,(g p).h⟩) :=
 ivA_set g (by decide) fun k hk=>by
  rcases (by omega:k=0∨k=1∨k=2∨k=3) with rfl | rfl | rfl | rfl <;> rfl
theorem ivA_h (g:Nat→Iv) (m p:Nat) (x:Bool):(ivA m g).setIfInBounds (p*4+3) (.bool x)=ivA m (upd g p ⟨(g p).p,(g p).f,(g p).t,x⟩) :=
 ivA_set g (by decide) fun k hk=>by
  rcases (by omega:k=0∨k=1∨k=2∨k=3) with rfl | rfl | rfl | rfl <;> rfl
theorem ivA_p (g:Nat→Iv) (m p:Nat) (x:Int):(ivA m g).setIfInBounds (p*4) (.int .i64 x)=ivA m (upd g p ⟨x,(g p).f,(g p).t,(g p).h⟩) :=
 ivA_set (j:=0) g (by decide) fun k hk=>by
  rcases (by omega:k=0∨k=1∨k=2∨k=3) with rfl | rfl | rfl | rfl <;> rfl
theorem ivA_congr {g g':Nat→Iv} {m:Nat} (h:∀ p,p<m→g p=g' p):ivA m g=ivA m g':=by
 unfold ivA
 refine rowA_congr fun i hi=>?_
 rw [h _ (by omega)]
theorem ivA_made (m:Nat):madeCells #[.int .i64 0,.int .i64 0,.int .i64 0,.bool false] (m*4)=ivA m fun _=>⟨0,0,0,false⟩:=by
 apply Array.ext
 ·simp [madeCells,ivA,rowA]
 ·intro i h1 h2
  have h3:i % 4<4:=Nat.mod_lt _ (by decide)
  have h4:(madeCells #[.int .i64 0,.int .i64 0,.int .i64 0,.bool false] (m*4))[i]=(#[.int .i64 0,.int .i64 0,.int .i64 0,.bool false]:Array Value)[i % 4]!:=by simp [madeCells]
  have h5:(ivA m fun _=>⟨0,0,0,false⟩)[i]=ivX ⟨0,0,0,false⟩ (i % 4):=by simp [ivA,rowA]
  rw [h4,h5]
  rcases (by omega:i % 4=0∨i % 4=1∨i % 4=2∨i % 4=3) with e | e | e | e <;> rw [e] <;> rfl
theorem info_iv:(Tryd.prog.info? 110).map (fun i=>(i.zero,i.size,i.bytes))=some (some (.agg #[.int .i64 0,.int .i64 0,.int .i64 0,.bool false]),4,32):=by kernel_rfl
theorem make_iv (n:Nat) (hn:n≤5000) (W:World):(Instr.makeSlice 88 (.int .i64 n) (.int .i64 n)).run Tryd.prog W=.ok (.slice (some ⟨W.heap.size,0,none⟩) n n) (W.alloc (.cells (ivA n fun _=>⟨0,0,0,false⟩) 110)):=by
 obtain ⟨i,hi,hzz⟩:=Option.map_eq_some_iff.1 info_iv
 simp only [Prod.mk.injEq] at hzz
 obtain ⟨hz,hs,hb⟩:=hzz
 have hr:=run_make (P:=Tryd.prog) W 88 110 i _ Tryd.underlying88 hi hz .i64 .i64 n n (by omega) (Int.le_refl _) (by rw [hb];omega) (by omega)
 simp only [Int.toNat_natCast,hs] at hr
 rw [← ivA_made]
 exact hr
theorem recL_upd (k:Nat) (xs:List Int) (x:Nat) (g:Nat→Iv):recL k (xs ++ [(x:Int)]) g=upd (recL k xs g) x (recI k (recL k xs g x)):=by
 rw [recL_snoc]
 funext p
 unfold upd
 by_cases e:p=x
 ·subst e;simp
 ·rw [if_neg e,if_neg e]
theorem upd_twice {α:Type} (f:Nat→α) (i:Nat) (v u:α):upd (upd f i v) i u=upd f i u:=by
 funext k
 unfold upd
 by_cases e:k=i
 ·rw [if_pos e,if_pos e]
 ·rw [if_neg e,if_neg e,if_neg e]
theorem KpB.trans {w w1 w2:World} {b:Nat} (h:KpB w w1 b) (k:KpB w1 w2 b):KpB w w2 b :=
 ⟨k.os.trans h.os,k.tape.trans h.tape,k.output.trans h.output,Nat.le_trans h.size k.size,fun i hi hne=>(k.block i (Nat.lt_of_lt_of_le hi h.size) hne).trans (h.block i hi hne)⟩
theorem KpB.of_below {w w1:World} (b:Nat) (h:Below w.heap.size w w1):KpB w w1 b:=⟨h.os,h.tape,h.output,h.size,fun i hi _=>h.block i hi⟩
theorem record_any (B b R m k n c:Nat) (A:Option Addr) (g:Nat→Iv) (xs:List Int) (w:World) (hbox:Blk w b 88 #[.slice (some ⟨R,0,none⟩) m m]) (hrow:Blk w R 110 (ivA m g)) (hkeep:∀ W,KpB w W R→Reads W B 1 A n (i64c xs)) (hl:xs.length=n) (hin:∀ x ∈ xs,0≤x∧x<(m:Int)) (hn:n≤5000) (hm:m≤5000) :
  Calls Tryd.prog 69 #[.int .i64 k,.slice A n c,.pointer (some ⟨b,0,none⟩)] w fun e w'=>e=.returned (.tuple #[])∧Blk w' R 110 (ivA m (recL k xs g))∧KpB w w' R:=by
 have HBX:=Lib.hid hbox
 have HK:=Lib.hid hkeep
 have HL:=Lib.hid hl
 have HIN:=Lib.hid hin
 have HR0:Hid (Blk w R 110 (ivA m (recL k (xs.take 0) g))):=Lib.hid (by rw [List.take_zero,recL_nil];exact hrow)
 have HNE:Hid (b≠R):=Lib.hid (Blk.ne_ hbox hrow (by decide))
 clear hbox hrow hkeep hl hin
 go_enter Tryd.func69,Tryd.ntmps69
 go_wp2
 go_loopw [10] (fun s wr=>∃ j:Nat,j≤n∧s=.int .i64 j∧Hid (Blk wr R 110 (ivA m (recL k (xs.take j) g)))∧Hid (KpB w wr R)) (fun s _=>n-(intOf s).toNat)
 case atStart=>exact ⟨0,by omega,rfl,HR0,Lib.hid (KpB.refl _ _)⟩
 case round =>
  clear HR0
  obtain ⟨j,hj,rfl,HR,HKP⟩:=hrel
  by_cases hlt:j<n
  ·obtain ⟨bx,ox,x,hxe,hbx,HXX,x1⟩:=(HK.out wr HKP.out).int hlt
   obtain ⟨hx0,hx1⟩:=HIN.out x (List.mem_of_getElem? HXX.out)
   obtain ⟨q,rfl⟩:∃ q:Nat,x=(q:Int):=⟨x.toNat,by omega⟩
   have hq:q<m:=by omega
   rw [hxe]
   clear hxe hx0 hx1
   obtain ⟨G,hG⟩:∃ G,G=recL k (xs.take j) g:=⟨_,rfl⟩
   have HS:Hid (recL k (xs.take (j+1)) g=upd G q (recI k (G q))):=Lib.hid (by rw [take_at HXX.out,recL_upd,hG])
   rw [← hG] at HR
   clear hG
   have z0:wr.cell? ⟨b,0,none⟩=some (.slice (some ⟨R,0,none⟩) m m):=(HKP.out.blk HBX.out HNE.out).cell 0
   have z1:wr.cell? ⟨R,q*4+1,none⟩=some (.int .i64 (G q).f):=by rw [HR.out.cell,ivA_at _ hq (by decide)];rfl
   have z2:wr.cell? ⟨R,q*4+2,none⟩=some (.int .i64 (G q).t):=by rw [HR.out.cell,ivA_at _ hq (by decide)];rfl
   have f1:wr.frozen? ⟨R,q*4+1,none⟩=false:=HR.out.frozen _
   have f2:wr.frozen? ⟨R,q*4+2,none⟩=false:=HR.out.frozen _
   by_cases hf:(G q).f=-1
   ·have g1:((G q).f == -1)=true:=by rw [hf];rfl
    have HN1:Hid (Blk ((wr.setCell ⟨R,q*4+1,none⟩ (.int .i64 k)).setCell ⟨R,q*4+2,none⟩ (.int .i64 k)) R 110 (ivA m (recL k (xs.take (j+1)) g))):=Lib.hid (by
     have h1:=(HR.out.set_ (q*4+1) (.int .i64 k)).set_ (q*4+2) (.int .i64 k)
     rw [ivA_f,ivA_t,upd_twice,upd_at] at h1
     rw [HS.out]
     unfold recI
     rw [if_pos hf]
     exact h1)
    have HN2:Hid (KpB w ((wr.setCell ⟨R,q*4+1,none⟩ (.int .i64 k)).setCell ⟨R,q*4+2,none⟩ (.int .i64 k)) R):=Lib.hid ((HKP.out.set _ _).set _ _)
    clear hf
    go_wp2
    go_roundw
    case rel=>exact ⟨j+1,by omega,by go_num,HN1,HN2⟩
    case measure=>simp [intOf];omega
   ·have g1:((G q).f == -1)=false:=by simpa using hf
    have HN1:Hid (Blk (wr.setCell ⟨R,q*4+2,none⟩ (.int .i64 k)) R 110 (ivA m (recL k (xs.take (j+1)) g))):=Lib.hid (by
     have h1:=HR.out.set_ (q*4+2) (.int .i64 k)
     rw [ivA_t] at h1
     rw [HS.out]
     unfold recI
     rw [if_neg hf]
     exact h1)
    have HN2:Hid (KpB w (wr.setCell ⟨R,q*4+2,none⟩ (.int .i64 k)) R):=Lib.hid (HKP.out.set _ _)
    clear hf
    go_wp2
    go_roundw
    case rel=>exact ⟨j+1,by omega,by go_num,HN1,HN2⟩
    case measure=>simp [intOf];omega
  ·have HE:Hid (recL k (xs.take j) g=recL k xs g):=Lib.hid (by rw [List.take_of_length_le (by rw [HL.out];omega)])
   rw [HE.out] at HR
   go_wp2
   first | go_end0 | go_ret
   exact ⟨rfl,HR.out,HKP.out⟩
def ivZ:Iv:=⟨0,0,0,false⟩
def ivClr (G:Nat→Iv) (i:Nat):Nat→Iv:=fun p=>if p<i then G p else ivZ
theorem blk_sets {g:Nat} {t:TypeId}:∀ (vs:List Value) (o:Nat) (f:Nat→Value) (n:Nat) (w:World),Blk w g t (rowA n f)→Blk (w.setCells g o vs) g t (rowA n fun k=>if o≤k∧k<o+vs.length then vs.getD (k-o) undef else f k)
 | [],o,f,n,w,h=>by
  have e:rowA n (fun k=>if o≤k∧k<o+([]:List Value).length then ([]:List Value).getD (k-o) undef else f k)=rowA n f:=rowA_congr fun k hk=>if_neg (by rw [List.length_nil];omega)
  rw [e]
  exact h
 | v :: r,o,f,n,w,h=>by
  have h1:=h.set_ o v
  rw [rowA_set] at h1
  have h2:=blk_sets r (o+1) (upd f o v) n (w.setCell ⟨g,o,none⟩ v) h1
  have e:rowA n (fun k=>if o≤k∧k<o+(v :: r).length then (v :: r).getD (k-o) undef else f k)=rowA n (fun k=>if o+1≤k∧k<o+1+r.length then r.getD (k-(o+1)) undef else upd f o v k):=rowA_congr fun k hk=>by
   have hl:(v :: r).length=r.length+1:=rfl
   by_cases e:k=o
   ·subst e
    rw [if_pos ⟨Nat.le_refl _,by omega⟩,if_neg (by omega),upd_at,Nat.sub_self]
    rfl
   ·by_cases e2:o+1≤k∧k<o+1+r.length
    ·rw [if_pos e2,if_pos ⟨by omega,by omega⟩,show k-o=(k-(o+1))+1 by omega]
     rfl
    ·rw [if_neg e2,upd_ne e,if_neg (by omega)]
  rw [e]
  exact h2
theorem kpb_sets {g:Nat} {w0:World}:∀ (vs:List Value) (o:Nat) (w:World),KpB w0 w g→KpB w0 (w.setCells g o vs) g
 | [],_,_,h=>h
 | v :: r,o,w,h=>kpb_sets r (o+1) _ (h.set o v)
theorem zero_iv (w:World):(zeroValue 110).run Tryd.prog w=.ok (.agg #[.int .i64 0,.int .i64 0,.int .i64 0,.bool false]) w:=by kernel_rfl
theorem clear_iv (w:World) (R m i:Nat) (G:Nat→Iv) (hi:i<m) (h:Blk w R 110 (ivA m G)) :
  ∃ W2,(∀ ty,(Builtin.clear_ #[88] ty #[.slice (some ⟨R,i*4,none⟩) (m-i) (m-i)]).run Tryd.prog w=.ok (.tuple #[]) W2)∧Blk W2 R 110 (ivA m (ivClr G i))∧KpB w W2 R:=by
 obtain ⟨zs,hzs⟩:∃ zs,zs=(Builtin.zeroCells (Value.agg #[.int .i64 0,.int .i64 0,.int .i64 0,.bool false]).cells (m-i)).toList:=⟨_,rfl⟩
 have hzl:zs.length=(m-i)*4:=by rw [hzs];simp [Builtin.zeroCells,Value.cells]
 have hza:∀ k,k<(m-i)*4→zs[k]?=some (ivX ivZ (k % 4)):=by
  intro k hk
  rw [hzs]
  have h3:k % 4<4:=Nat.mod_lt _ (by decide)
  have:(Builtin.zeroCells (Value.agg #[.int .i64 0,.int .i64 0,.int .i64 0,.bool false]).cells (m-i)).toList[k]?=some ((#[.int .i64 0,.int .i64 0,.int .i64 0,.bool false]:Array Value)[k % 4]!):=by
   simp [Builtin.zeroCells,Value.cells,hk]
  rw [this]
  rcases (by omega:k % 4=0∨k % 4=1∨k % 4=2∨k % 4=3) with e | e | e | e <;> rw [e] <;> rfl
 have hone:∀ v ∈ zs,v.oneCell'=true:=by
  intro v hv
  obtain ⟨k,hk⟩:=List.mem_iff_getElem?.1 hv
  have hkl:=(List.getElem?_eq_some_iff.1 hk).1
  rw [hza k (by omega)] at hk
  injection hk with hk
  subst hk
  rcases (by omega:k % 4=0∨k % 4=1∨k % 4=2∨k % 4=3) with e | e | e | e <;> rw [e] <;> rfl
 have hst:=run_storeCells_cells (P:=Tryd.prog) R (i*4) zs 0 w (fun j hj=>by
  rw [Nat.add_zero,h.cell]
  unfold ivA
  rw [rowA_at _ (by omega)]
  rfl) (fun j hj=>h.frozen _) hone
 simp only [Nat.add_zero] at hst
 refine ⟨w.setCells R (i*4) zs,fun ty=>?_,?_,kpb_sets zs (i*4) w (KpB.refl _ _)⟩
 ·obtain ⟨n,hn⟩:∃ n,m-i=n+1:=⟨m-i-1,by omega⟩
  rw [hn] at hzs ⊢
  rw [hzs] at hst ⊢
  simp [Builtin.clear_,run_underlying Tryd.underlying88,zero_iv,hst]
 ·have h1:=blk_sets zs (i*4) _ (m*4) w h
  unfold ivA
  rw [rowA_congr (g:=fun k=>if i*4≤k∧k<i*4+zs.length then zs.getD (k-i*4) undef else ivX (G (k / 4)) (k % 4)) (fun k hk=>by
   unfold ivClr
   by_cases e:k / 4<i
   ·rw [if_pos e,if_neg (by omega)]
   ·rw [if_neg e,if_pos ⟨by omega,by omega⟩,List.getD_eq_getElem?_getD,hza _ (by omega),show (k-i*4) % 4=k % 4 by omega]
    rfl)]
  exact h1
theorem unused_any (s:Iv) (w:World):Calls Tryd.prog 71 #[.agg #[.int .i64 s.p,.int .i64 s.f,.int .i64 s.t,.bool s.h]] w fun e w'=>e=.returned (.bool (s.f == -1))∧Below w.heap.size w w':=by
 have HB:Hid (Below w.heap.size w (w.alloc (.cells #[.int .i64 s.p,.int .i64 s.f,.int .i64 s.t,.bool s.h] 110))):=(Below.refl _ _).alloc (Nat.le_refl _) _
 go_enter Tryd.func71,Tryd.ntmps71
 go_wp2
 go_ret
 exact ⟨rfl,HB.out⟩
theorem index_iv (R m c:Nat) (g:Nat→Iv) (w:World) (h:Blk w R 110 (ivA m g)) (hm:m≤5000) :
  Calls Tryd.prog 93 #[.slice (some ⟨R,0,none⟩) m c,.func (.func 71) #[] #[]] w fun e w'=>∃ z:Int,e=.returned (.int .i64 z)∧Below w.heap.size w w'∧((z=-1∧∀ p,p<m→(g p).f≠-1)∨∃ i:Nat,z=i∧i<m∧(g i).f=-1∧∀ p,p<i→(g p).f≠-1):=by
 have H:=Lib.hid h
 clear h
 go_enter Tryd.func93,Tryd.ntmps93
 go_wp2
 go_loopw [8] (fun s wr=>∃ k:Nat,k≤m∧s=.int .i64 k∧Hid (∀ p,p<k→(g p).f≠-1)∧Hid (Below w.heap.size w wr)) (fun s _=>m-(intOf s).toNat)
 case atStart=>exact ⟨0,by omega,rfl,Lib.hid (fun p hp=>absurd hp (by omega)),Lib.hid (Below.refl _ _)⟩
 case round =>
  obtain ⟨k,hk,rfl,HF,HB⟩:=hrel
  by_cases hlt:k<m
  ·have HR:=Lib.hid (H.out.below HB.out H.out.lt)
   have z0:wr.cell? ⟨R,k*4,none⟩=some (.int .i64 (g k).p):=by rw [HR.out.cell];exact ivA_at (j:=0) _ hlt (by decide)
   have z1:wr.cell? ⟨R,k*4+1,none⟩=some (.int .i64 (g k).f):=by rw [HR.out.cell,ivA_at _ hlt (by decide)];rfl
   have z2:wr.cell? ⟨R,k*4+2,none⟩=some (.int .i64 (g k).t):=by rw [HR.out.cell,ivA_at _ hlt (by decide)];rfl
   have z3:wr.cell? ⟨R,k*4+3,none⟩=some (.bool (g k).h):=by rw [HR.out.cell,ivA_at _ hlt (by decide)];rfl
   have HU:=Lib.hid (unused_any (g k) wr)
   by_cases hf:(g k).f=-1
   ·have g1:((g k).f == -1)=true:=by rw [hf];rfl
    rw [g1] at HU
    have HFK:=Lib.hid hf
    clear hf g1
    go_wp2_with (go_at_call 71;refine HU.out.mono ?_;rintro e w2 ⟨rfl,hb2⟩;have HB2:=Lib.hid (HB.out.trans (hb2.mono HB.out.size));clear hb2)
    go_ret
    exact ⟨_,rfl,HB2.out,.inr ⟨k,rfl,hlt,HFK.out,HF.out⟩⟩
   ·have g1:((g k).f == -1)=false:=by simpa using hf
    rw [g1] at HU
    have HFK:Hid (∀ p,p<k+1→(g p).f≠-1):=Lib.hid fun p hp=>by
     by_cases e:p=k
     ·subst e;exact hf
     ·exact HF.out p (by omega)
    clear hf g1
    go_wp2_with (go_at_call 71;refine HU.out.mono ?_;rintro e w2 ⟨rfl,hb2⟩;have HB2:=Lib.hid (HB.out.trans (hb2.mono HB.out.size));clear hb2)
    go_roundw
    case rel=>exact ⟨k+1,by omega,by go_num,HFK,HB2⟩
    case measure=>simp [intOf];omega
  ·have HFM:Hid (∀ p,p<m→(g p).f≠-1):=Lib.hid fun p hp=>HF.out p (by omega)
   go_wp2
   go_ret
   exact ⟨-1,rfl,HB.out,.inl ⟨rfl,HFM.out⟩⟩
def keptK (g:Nat→Iv) (j:Nat):List Iv:=((List.range j).map g).filter fun s=>decide (s.f≠-1)
theorem keptK_succ (g:Nat→Iv) (j:Nat):keptK g (j+1)=keptK g j ++ (if (g j).f=-1 then [] else [g j]):=by
 unfold keptK
 rw [List.range_succ,List.map_append,List.filter_append]
 congr 1
 rw [List.map_singleton]
 by_cases h:(g j).f=-1
 ·rw [if_pos h,List.filter_cons_of_neg (by simp [h]),List.filter_nil]
 ·rw [if_neg h,List.filter_cons_of_pos (by simp [h]),List.filter_nil]
theorem keptK_all {g:Nat→Iv}:∀ {j:Nat},(∀ p,p<j→(g p).f≠-1)→keptK g j=(List.range j).map g
 | 0,_=>rfl
 | j+1,h=>by
  rw [keptK_succ,keptK_all (fun p hp=>h p (by omega)),if_neg (h j (by omega)),List.range_succ,List.map_append,List.map_singleton]
structure DelI (w:World) (R m i j:Nat) (g G:Nat→Iv) (wr:World):Prop where
 row:Blk wr R 110 (ivA m G)
 kp:KpB w wr R
 cnt:(keptK g j).length=i
 low:∀ p,p<i→(keptK g j)[p]?=some (G p)
 high:∀ p,j≤p→p<m→G p=g p
 lt:i<j
theorem DelI.skip {w wr w2:World} {R m i j:Nat} {g G:Nat→Iv} (h:DelI w R m i j g G wr) (hb:Below wr.heap.size wr w2) (hf:(g j).f=-1):DelI w R m i (j+1) g G w2:=by
 have e:keptK g (j+1)=keptK g j:=by rw [keptK_succ,if_pos hf,List.append_nil]
 exact ⟨h.row.below hb h.row.lt,h.kp.trans (KpB.of_below R hb),by rw [e];exact h.cnt,by rw [e];exact h.low,fun p hp hm=>h.high p (by omega) hm,by have:=h.lt;omega⟩
def setIv (w:World) (R i:Nat) (s:Iv):World:=(((w.setCell ⟨R,i*4,none⟩ (.int .i64 s.p)).setCell ⟨R,i*4+1,none⟩ (.int .i64 s.f)).setCell ⟨R,i*4+2,none⟩ (.int .i64 s.t)).setCell ⟨R,i*4+3,none⟩ (.bool s.h)
theorem setIv_blk {w:World} {R m i:Nat} {G:Nat→Iv} {s:Iv} (h:Blk w R 110 (ivA m G)):Blk (setIv w R i s) R 110 (ivA m (upd G i s)):=by
 have h1:=(((h.set_ (i*4) (.int .i64 s.p)).set_ (i*4+1) (.int .i64 s.f)).set_ (i*4+2) (.int .i64 s.t)).set_ (i*4+3) (.bool s.h)
 rw [ivA_p,ivA_f,ivA_t,ivA_h] at h1
 simp only [upd_twice,upd_at] at h1
 exact h1
theorem setIv_kp {w0 w:World} {R i:Nat} {s:Iv} (h:KpB w0 w R):KpB w0 (setIv w R i s) R:=(((h.set _ _).set _ _).set _ _).set _ _
theorem DelI.keep {w wr w2:World} {R m i j:Nat} {g G:Nat→Iv} (h:DelI w R m i j g G wr) (hb:Below wr.heap.size wr w2) (hf:(g j).f≠-1):DelI w R m (i+1) (j+1) g (upd G i (g j)) (setIv w2 R i (g j)):=by
 have e:keptK g (j+1)=keptK g j ++ [g j]:=by rw [keptK_succ,if_neg hf]
 have hl:=h.lt
 have hc:=h.cnt
 refine ⟨setIv_blk (h.row.below hb h.row.lt),setIv_kp (h.kp.trans (KpB.of_below R hb)),by rw [e,List.length_append,h.cnt];rfl,fun p hp=>?_,fun p hp hm=>?_,by omega⟩
 ·rw [e]
  by_cases ep:p=i
  ·subst ep
   rw [upd_at,List.getElem?_append_right (by omega),hc,Nat.sub_self]
   rfl
  ·rw [upd_ne ep,List.getElem?_append_left (by omega)]
   exact h.low p (by omega)
 ·rw [upd_ne (by omega)]
  exact h.high p (by omega) hm
structure VI (W:World) (b fl n:Nat) (no:Option Addr) (nc:Nat) (s:DSt) (v:Value) (w:World):Prop where
 box:Blk w b 161 #[.slice no n nc,.slice (some ⟨fl,0,none⟩) n n,v]
 row:Blk w fl 4 (rowA n fun k=>.bool (s.seen k))
 own:w.ownsRow W.heap.size 3 1 v s.left.length (i64c s.left)
 below:Below W.heap.size W w
 hb:W.heap.size≤b
 hf:W.heap.size≤fl
structure KpV (w w':World) (b fl:Nat) (v v':Value):Prop where
 size:w.heap.size≤w'.heap.size
 block:∀ g,g<w.heap.size→g≠b→g≠fl→v.ownBlock≠some g→w'.heap[g]?=w.heap[g]?
 row:v'.ownBlock=v.ownBlock∨∃ g,v'.ownBlock=some g∧w.heap.size≤g
section
variable {W w w' w1 w2:World} {b fl n nc:Nat} {no:Option Addr} {s:DSt} {v v1 v2 v':Value}
theorem KpV.refl (w:World) (b fl:Nat) (v:Value):KpV w w b fl v v:=⟨Nat.le_refl _,fun _ _ _ _ _=>rfl,.inl rfl⟩
theorem KpV.trans (h:KpV w w1 b fl v v1) (k:KpV w1 w2 b fl v1 v2):KpV w w2 b fl v v2:=by
 have h0:=h.size
 refine ⟨Nat.le_trans h.size k.size,fun g hg h1 h2 h3=>(k.block g (by omega) h1 h2 fun e=>?_).trans (h.block g hg h1 h2 h3),?_⟩
 ·rcases h.row with h4 | ⟨g',h4,h5⟩
  ·exact h3 (h4 ▸ e)
  ·rw [h4] at e
   injection e with e
   omega
 ·rcases k.row with h4 | ⟨g',h4,h5⟩
  ·rcases h.row with h6 | ⟨g'',h6,h7⟩
   ·exact .inl (h4.trans h6)
   ·exact .inr ⟨g'',h4.trans h6,h7⟩
  ·exact .inr ⟨g',h4,by omega⟩
theorem KpV.of_below (h:Below w.heap.size w w') (b fl:Nat) (v:Value):KpV w w' b fl v v:=⟨h.size,fun g hg _ _ _=>h.block g hg,.inl rfl⟩
theorem VI.on (h:VI W b fl n no nc s v w) (hb:Below w.heap.size w w'):VI W b fl n no nc s v w' :=
 ⟨h.box.below hb h.box.lt,h.row.below hb h.row.lt,own_kept h.own fun g hg=>hb.block g (own_block_le h.own hg).2,h.below.trans (hb.mono h.below.size),h.hb,h.hf⟩
theorem VI.mark (h:VI W b fl n no nc s v w) (i:Nat):VI W b fl n no nc ⟨mkB s.seen i,s.left⟩ v (w.setCell ⟨fl,i,none⟩ (.bool true)):=by
 have hf:=h.hf
 refine ⟨h.box.far (p:=⟨fl,i,none⟩) (Blk.ne_ h.box h.row (by decide)) _,?_,own_far h.own h.row (by decide) _ _,h.below.setCell (p:=⟨fl,i,none⟩) (by show W.heap.size≤fl;exact hf) _,h.hb,h.hf⟩
 have h1:=h.row.set_ i (.bool true)
 rw [rowA_set] at h1
 rw [rowA_congr (g:=upd (fun k=>.bool (s.seen k)) i (.bool true)) (fun k hk=>by
  show Value.bool (if k=i then true else s.seen k)=if k=i then _ else _
  by_cases e:k=i
  ·rw [if_pos e,if_pos e]
  ·rw [if_neg e,if_neg e])]
 exact h1
theorem KpV.mark (w:World) (b fl i:Nat) (v u:Value):KpV w (w.setCell ⟨fl,i,none⟩ u) b fl v v :=
 ⟨by simp [World.setCell],fun g _ _ h2 _=>Below.heap_setCell w ⟨fl,i,none⟩ u g h2,.inl rfl⟩
theorem VI.push {o:Obj} {x:Int} (h:VI W b fl n no nc s v w) (hown:w'.ownsRow W.heap.size 3 1 v' (s.left.length+1) (i64c s.left ++ [.int .i64 x])) (hg:(w.alloc o).grownBy w' v.ownBlock) (hor:v'.ownBlock=v.ownBlock∨v'.ownBlock=some (w.alloc o).heap.size) :
  w'.frozen? ⟨b,2,none⟩=false∧(∃ y,w'.cell? ⟨b,2,none⟩=some y)∧Hid (VI W b fl n no nc ⟨s.seen,s.left ++ [x]⟩ v' (w'.setCell ⟨b,2,none⟩ v'))∧Hid (KpV w (w'.setCell ⟨b,2,none⟩ v') b fl v v'):=by
 have ho:=own_alloc h.own o
 have hbx:=blk_grown (h.box.alloc o) ho hg (by decide)
 have hrw:=blk_grown (h.row.alloc o) ho hg (by decide)
 have hz:=h.below.size
 have hb:=h.hb
 have hgs:=hg.size
 simp at hgs
 have hbl:Below W.heap.size W w':=(h.below.alloc hz o).grown hg (by simp;omega) fun g he=>by have:=(own_block_le ho he).1;omega
 refine ⟨hbx.frozen 2,⟨_,hbx.cell 2⟩,Lib.hid ⟨hbx.set_ 2 v',hrw.far (p:=⟨b,2,none⟩) (by show fl≠b;exact (Blk.ne_ h.box h.row (by decide)).symm) _,?_,hbl.setCell (p:=⟨b,2,none⟩) (by show W.heap.size≤b;exact hb) _,h.hb,h.hf⟩,Lib.hid ⟨by simp [World.setCell];omega,fun g hgl h1 h2 h3=>?_,?_⟩⟩
 ·have h1:=own_far hown hbx (by decide) 2 v'
  show World.ownsRow _ _ _ _ _ (s.left ++ [x]).length (i64c (s.left ++ [x]))
  rw [i64c_append,List.length_append]
  exact h1
 ·refine (Below.heap_setCell w' ⟨b,2,none⟩ v' g h1).trans ((hg.block g (by simp;omega) (fun e=>h3 e.symm)).trans (Below.heap_alloc w o g hgl))
 ·rcases hor with h1 | h1
  ·exact .inl h1
  ·exact .inr ⟨_,h1,by simp⟩
end
theorem visL_cnt {ns:List Nd} (hv:NextIn ns) {f:Nat} {xs:List Int} {s:DSt} (hx:∀ x ∈ xs,0≤x∧x<(ns.length:Int)) (hu:unS s.seen ns.length≤f) :
  unS (visL ns f xs s).seen ns.length≤f∧(visL ns f xs s).left.length+unS (visL ns f xs s).seen ns.length=s.left.length+unS s.seen ns.length:=by
 obtain ⟨l,h⟩:=visL_ok hv (fun i t hi ht htu=>by
  obtain ⟨l,hl⟩:=vis_ok hv f i t hi ht htu
  exact ⟨_,hl⟩) xs s hx hu
 have h1:=unS_mono ns.length h.mono
 have h2:=h.cnt
 refine ⟨by omega,?_⟩
 rw [h.left,List.length_append]
 omega
def VPost (ns:List Nd) (W:World) (b fl n:Nat) (no:Option Addr) (nc F i:Nat) (s:DSt) (v:Value) (w:World) (e:Ending) (w':World):Prop :=
 e=.returned (.tuple #[])∧∃ v',VI W b fl n no nc (vis ns F i s) v' w'∧KpV w w' b fl v v'
theorem visit_any (B b fl n nc:Nat) (no:Option Addr) (rn:List RN) (W:World) (hN:RdNs W B no n rn) (hB:B≤W.heap.size) (hn:n≤4096) (hv:NextIn (nds rn)) :
  ∀ (F i:Nat) (s:DSt) (v:Value) (w:World),i<n→s.seen i=false→unS s.seen n≤F→s.left.length+unS s.seen n≤n→VI W b fl n no nc s v w →
   Calls Tryd.prog 91 #[.pointer (some ⟨b,0,none⟩),.int .i64 i] w (VPost (nds rn) W b fl n no nc F i s v w):=by
 have HRN:=Lib.hid hN
 have HV:=Lib.hid hv
 have HLN:Hid ((nds rn).length=n):=Lib.hid (by rw [length_nds];exact hN.len)
 clear hN hv
 intro F
 induction F with
 | zero=>exact fun i s v w hi hs hu _ _=>absurd (unS_pos hi hs) (by omega)
 | succ F ih =>
  intro i s v w hi hs hu hc h
  have IH:=Lib.hid ih
  have H:=Lib.hid h
  have hum:=unS_mark hi hs
  have HU:Hid (unS (mkB s.seen i) n≤F):=Lib.hid (by omega)
  have HC:Hid (s.left.length+unS (mkB s.seen i) n+1≤n):=Lib.hid (by omega)
  clear ih h hs hu hc hum
  obtain ⟨Av,cv,hve⟩:=own_slice H.out.own
  have b0:w.cell? ⟨b,0,none⟩=some (.slice no n nc):=H.out.box.cell 0
  have b1:w.cell? ⟨b,1,none⟩=some (.slice (some ⟨fl,0,none⟩) n n):=H.out.box.cell 1
  have f1:w.frozen? ⟨fl,i,none⟩=false:=H.out.row.frozen i
  have y1:w.cell? ⟨fl,i,none⟩=some (.bool (s.seen i)):=by rw [H.out.row.cell,rowA_at _ hi]
  have hbf:b≠fl:=Blk.ne_ H.out.box H.out.row (by decide)
  have H1:=Lib.hid (H.out.mark i)
  have K1:=Lib.hid (KpV.mark w b fl i v (.bool true))
  obtain ⟨w1,hw1⟩:∃ w1,w1=w.setCell ⟨fl,i,none⟩ (.bool true):=⟨_,rfl⟩
  rw [← hw1] at H1 K1
  have c0:w1.cell? ⟨b,0,none⟩=some (.slice no n nc):=H1.out.box.cell 0
  obtain ⟨bn,on,nd,hno,hbn,HXI,HRN1,HWI,u0,u1,u2,u3,u4,u5,u6,u7,u8,u9,u10,u11⟩:=(HRN.out.below (H1.out.below.mono hB)).nd hi
  have HXN:Hid ((nds rn)[i]?=some nd.nd):=Lib.hid (by unfold nds;rw [List.getElem?_map,HXI.out];rfl)
  have hwz:=H1.out.below.size
  have hbnr:bn<w1.heap.size:=by omega
  have HNX:=Lib.hid (gnext_own nd.nd.op nd.nd.bop nd.nd.d nd.nd.e nd.nd.a nd.nd.b nd.nd.f nd.nd.cell nd.nd.imm nd.nd.args nd.nd.next nd.nd.els nd.ao nd.nd.args.length nd.ac w1 HWI.out.o0 HWI.out.o1)
  have HNO:=Lib.hid hno
  rw [hno] at c0 ⊢
  clear hno
  obtain ⟨xs,hxs⟩:∃ xs,xs=nextsOf ⟨nd.nd.op,nd.nd.bop,nd.nd.d,nd.nd.e,nd.nd.a,nd.nd.b,nd.nd.f,nd.nd.cell,nd.nd.imm,nd.nd.args,nd.nd.next,nd.nd.els⟩:=⟨_,rfl⟩
  rw [← hxs] at HNX
  have HXS:Hid (xs=nxt (nds rn) i):=Lib.hid (by rw [nxt_at HXN.out];exact hxs)
  have HXI2:Hid (∀ x ∈ xs,0≤x∧x<(n:Int)):=Lib.hid (by
   rw [HXS.out,← HLN.out]
   exact fun x hx=>nxt_in HV.out hx)
  have hm2:xs.length≤2:=by rw [hxs];exact nexts_lenC _
  clear hxs
  go_enter Tryd.func91,Tryd.ntmps91
  rw [HNO.out] at b0
  go_upto_region 1 with fail
  rw [← hw1]
  clear hw1 b0 b1 f1 y1
  go_wp2_with (go_at_call 58;refine HNX.out.mono ?_;rintro e w2 ⟨A2,c2,rfl,ho2,hc2,hb2⟩;have HO2:=Lib.hid ho2;have H2:=Lib.hid (H1.out.on hb2);have K2:=Lib.hid (K1.out.trans (KpV.of_below hb2 b fl v));clear hb2 ho2)
  clear u0 u1 u2 u3 u4 u5 u6 u7 u8 u9 u10 u11 hbnr c0
  obtain ⟨m,hm⟩:∃ m,m=xs.length:=⟨_,rfl⟩
  rw [← hm] at HO2 hm2 hc2 ⊢
  have HM:=Lib.hid hm
  have HKR:Hid (∀ wr vr,KpV w2 wr b fl v vr→wr.ownsRow w1.heap.size 3 1 (.slice A2 m c2) m (i64c xs)):=Lib.hid fun wr vr hk=>own_kept HO2.out fun g hg=>by
   have hl:=own_block_le HO2.out hg
   refine hk.block g hl.2 (fun e=>?_) (fun e=>?_) (fun e=>?_)
   ·have:=H1.out.box.lt;omega
   ·have:=H1.out.row.lt;omega
   ·have:=(own_block_le H1.out.own e).2;omega
  clear hm HNX HRN1 K1
  go_loopw [21] (fun sj wr=>∃ (j:Nat) (vr:Value) (sr:DSt),j≤m∧sj=.int .i64 j∧Hid (sr=visL (nds rn) F (xs.take j) ⟨mkB s.seen i,s.left⟩)∧Hid (VI W b fl n no nc sr vr wr)∧Hid (KpV w2 wr b fl v vr)) (fun sj _=>m-(intOf sj).toNat)
  case atStart=>exact ⟨0,v,_,by omega,rfl,Lib.hid rfl,H2,Lib.hid (KpV.refl _ _ _ _)⟩
  case round =>
   clear H2
   obtain ⟨j,vr,sr,hj,rfl,HS,HI,HK⟩:=hrel
   have HCN:Hid (unS sr.seen n≤F∧sr.left.length+unS sr.seen n+1≤n):=Lib.hid (by
    have h1:=visL_cnt HV.out (f:=F) (xs:=xs.take j) (s:=⟨mkB s.seen i,s.left⟩) (fun x hx=>by rw [HLN.out];exact HXI2.out x (List.mem_of_mem_take hx)) (by rw [HLN.out];exact HU.out)
    rw [← HS.out,HLN.out] at h1
    have h2:=HC.out
    have h3:=h1.2
    simp only at h3
    exact ⟨h1.1,by omega⟩)
   by_cases hjl:j<m
   ·obtain ⟨bx,ox,x,hxe,hbx,HXX,x1⟩:=(Reads.of_own (HKR.out wr vr HK.out)).int hjl
    obtain ⟨hx0,hx1⟩:=HXI2.out x (List.mem_of_getElem? HXX.out)
    obtain ⟨y,rfl⟩:∃ y:Nat,x=(y:Int):=⟨x.toNat,by omega⟩
    have hy:y<n:=by omega
    have r1:wr.cell? ⟨b,1,none⟩=some (.slice (some ⟨fl,0,none⟩) n n):=HI.out.box.cell 1
    have ry:wr.cell? ⟨fl,y,none⟩=some (.bool (sr.seen y)):=by rw [HI.out.row.cell,rowA_at _ hy]
    have HSN:Hid (visL (nds rn) F (xs.take (j+1)) ⟨mkB s.seen i,s.left⟩=visS (nds rn) F sr (y:Int)):=Lib.hid (by rw [take_at HXX.out,visL_snoc,← HS.out])
    have HXE:=Lib.hid hxe
    rw [hxe]
    clear hxe hx0 hx1 HXX
    rcases hsy:sr.seen y with _ | _
    ·have HY:=Lib.hid hsy
     have HIH:=Lib.hid (IH.out y sr vr wr hy hsy HCN.out.1 (by have:=HCN.out.2;omega) HI.out)
     rw [hsy] at ry
     clear hsy
     go_wp2_with (go_at_call 91;refine HIH.out.mono ?_;rintro e w3 ⟨rfl,v3,h3,k3⟩;have H3:=Lib.hid h3;have K3:=Lib.hid k3;clear h3 k3)
     go_roundw
     case rel =>
      refine ⟨j+1,v3,_,by omega,by go_num,Lib.hid ?_,H3,Lib.hid (HK.out.trans K3.out)⟩
      rw [HSN.out,visS_no (by rw [Int.toNat_natCast];exact HY.out),Int.toNat_natCast]
     case measure=>simp [intOf];omega
    ·have HY:=Lib.hid hsy
     rw [hsy] at ry
     clear hsy
     go_wp2
     go_roundw
     case rel =>
      refine ⟨j+1,vr,sr,by omega,by go_num,Lib.hid ?_,HI,HK⟩
      rw [HSN.out,visS_yes (by rw [Int.toNat_natCast];exact HY.out)]
     case measure=>simp [intOf];omega
   ·have hje:j=m:=by omega
    have HSA:Hid (sr=visL (nds rn) F (nxt (nds rn) i) ⟨mkB s.seen i,s.left⟩):=Lib.hid (by
     rw [HS.out,← HXS.out,List.take_of_length_le (by rw [← HM.out,hje];exact Nat.le_refl _)])
    have HLEN:Hid (sr.left.length≤4096):=Lib.hid (by have:=HCN.out.2;omega)
    obtain ⟨Ar,cr,hre⟩:=own_slice HI.out.own
    subst hre
    have r2:wr.cell? ⟨b,2,none⟩=some (.slice Ar sr.left.length cr):=HI.out.box.cell 2
    have hwrz:=HI.out.below.size
    clear hje hj
    go_wp2_with (at_builtin;refine app_int rfl (.tmp 41) (.tmp 43) rfl W.heap.size _ _ _ rfl (own_alloc HI.out.own _) (wr.heap.size+1) (some ⟨wr.heap.size,0,none⟩) 1 1 [.int .i64 i] rfl (one_reads wr _ _ 1 rfl) (ints_oneCell .i64 [(i:Int)]) (by have:=HLEN.out;omega) (by simp;omega) ?_;intro v4 w4 hown hgr hor;obtain ⟨A4,c4,rfl⟩:=own_slice hown;obtain ⟨fz4,⟨y4,yy4⟩,HV4,HK4⟩:=HI.out.push hown hgr hor;clear hown hgr hor)
    first | go_end0 | go_ret | (refine bodyPost_ret (v:=.tuple #[]) (by simp [results,Tryd.func91]) rfl ?_)
    refine ⟨rfl,_,?_,(K2.out.trans HK.out).trans HK4.out⟩
    rw [vis_succ,← HSA.out,← HNO.out]
    exact HV4.out
def rvK (l:List Int) (k:Nat):List Int:=(List.range l.length).map fun i=>if i<k∨l.length≤i+k then l.getD (l.length-1-i) 0 else l.getD i 0
theorem rvK_len (l:List Int) (k:Nat):(rvK l k).length=l.length:=by simp [rvK]
theorem rvK_at {l:List Int} {k i:Nat} (h:i<l.length):(rvK l k)[i]?=some (if i<k∨l.length≤i+k then l.getD (l.length-1-i) 0 else l.getD i 0):=by
 unfold rvK
 rw [List.getElem?_map,List.getElem?_range h]
 rfl
theorem rvK_zero (l:List Int):rvK l 0=l:=by
 apply List.ext_getElem?
 intro i
 by_cases h:i<l.length
 ·rw [rvK_at h,if_neg (by omega),List.getD_eq_getElem?_getD,List.getElem?_eq_getElem h]
  rfl
 ·rw [List.getElem?_eq_none (by rw [rvK_len];omega),List.getElem?_eq_none (by omega)]
theorem rvK_mid {l:List Int} {k:Nat} (h:2*k+1<l.length):(rvK l k)[k]?=some (l.getD k 0)∧(rvK l k)[l.length-1-k]?=some (l.getD (l.length-1-k) 0):=by
 refine ⟨?_,?_⟩
 ·rw [rvK_at (by omega),if_neg (by omega)]
 ·rw [rvK_at (by omega),if_neg (by omega)]
theorem rvK_step {l:List Int} {k:Nat} (h:2*k+1<l.length):((rvK l k).set k (l.getD (l.length-1-k) 0)).set (l.length-1-k) (l.getD k 0)=rvK l (k+1):=by
 apply List.ext_getElem?
 intro i
 rw [List.getElem?_set,List.getElem?_set,List.length_set,rvK_len]
 by_cases hi:i<l.length
 ·rw [rvK_at hi,rvK_at hi]
  by_cases e1:l.length-1-k=i
  ·rw [if_pos e1,if_pos (by omega),if_pos (by omega),show l.length-1-i=k by omega]
  ·rw [if_neg e1]
   by_cases e2:k=i
   ·rw [if_pos e2,if_pos (by omega),if_pos (by omega),e2]
   ·rw [if_neg e2]
    by_cases e3:i<k∨l.length≤i+k
    ·rw [if_pos e3,if_pos (by omega)]
    ·rw [if_neg e3,if_neg (by omega)]
 ·rw [if_neg (by omega),if_neg (by omega),List.getElem?_eq_none (by rw [rvK_len];omega),List.getElem?_eq_none (by rw [rvK_len];omega)]
theorem rvK_end {l:List Int} {k:Nat} (h:l.length≤2*k+1):rvK l k=l.reverse:=by
 apply List.ext_getElem?
 intro i
 by_cases hi:i<l.length
 ·rw [rvK_at hi,List.getElem?_reverse hi]
  by_cases e:i<k∨l.length≤i+k
  ·rw [if_pos e,List.getD_eq_getElem?_getD,List.getElem?_eq_getElem (by omega)]
   rfl
  ·rw [if_neg e,show l.length-1-i=i by omega,List.getD_eq_getElem?_getD,List.getElem?_eq_getElem hi]
   rfl
 ·rw [List.getElem?_eq_none (by rw [rvK_len];omega),List.getElem?_eq_none (by rw [List.length_reverse];omega)]
theorem i64c_set (l:List Int) (k:Nat) (x:Int):i64c (l.set k x)=(i64c l).set k (.int .i64 x):=by
 unfold i64c
 rw [List.map_set]
structure RvI (w:World) (base g n c k:Nat) (l:List Int) (wr:World):Prop where
 own:wr.ownsRow base 3 1 (.slice (some ⟨g,0,none⟩) n c) n (i64c (rvK l k))
 below:Below base w wr
 block:∀ i,i≠g→wr.heap[i]?=w.heap[i]?
 size:wr.heap.size=w.heap.size
theorem RvI.step {w wr:World} {base g n c k:Nat} {l:List Int} (h:RvI w base g n c k l wr) (hl:l.length=n) (hk:2*k+1<n) (hg:base≤g) :
  RvI w base g n c (k+1) l ((wr.drew.setCell ⟨g,k,none⟩ (.int .i64 (l.getD (n-1-k) 0))).setCell ⟨g,n-1-k,none⟩ (.int .i64 (l.getD k 0))):=by
 have hd:wr.drew.ownsRow base 3 1 (.slice (some ⟨g,0,none⟩) n c) n (i64c (rvK l k)):=h.own
 have h1:=(hd.stored k (.int .i64 (l.getD (n-1-k) 0))).1
 have h2:=(h1.stored (n-1-k) (.int .i64 (l.getD k 0))).1
 subst hl
 rw [← i64c_set,← i64c_set,rvK_step hk] at h2
 refine ⟨h2,(h.below.drew.setCell (p:=⟨g,k,none⟩) hg _).setCell (p:=⟨g,_,none⟩) hg _,fun i hi=>?_,by simp [World.setCell,h.size]⟩
 exact (Below.heap_setCell _ ⟨g,_,none⟩ _ i hi).trans ((Below.heap_setCell _ ⟨g,_,none⟩ _ i hi).trans (h.block i hi))
theorem reverse_any (base:Nat) (A:Option Addr) (n c:Nat) (l:List Int) (w:World) (h:w.ownsRow base 3 1 (.slice A n c) n (i64c l)) (hn:n≤1000000) (h0:0<n) :
  Calls Tryd.prog 92 #[.slice A n c] w fun e w'=>e=.returned (.tuple #[])∧w'.ownsRow base 3 1 (.slice A n c) n (i64c l.reverse)∧Below base w w'∧(∀ i,(Value.slice A n c).ownBlock≠some i→w'.heap[i]?=w.heap[i]?)∧w'.heap.size=w.heap.size:=by
 obtain ⟨g,cap,hv,hg,hlt⟩:=h.form h0
 injection hv with hv1 _ hv3
 subst hv1 hv3
 have hl:l.length=n:=by have:=h.1;rw [length_i64c] at this;omega
 have HL:=Lib.hid hl
 have HI0:Hid (RvI w base g n c 0 l w):=Lib.hid ⟨by rw [rvK_zero];exact h,Below.refl _ _,fun _ _=>rfl,rfl⟩
 clear h hl
 go_enter Tryd.func92,Tryd.ntmps92
 go_wp2
 go_loopw [2,3] (fun s t wr=>∃ k:Nat,2*k≤n∧s=.int .i64 k∧t=.int .i64 ((n:Int)-1-k)∧Hid (RvI w base g n c k l wr)) (fun s _ _=>n-(intOf s).toNat)
 case atStart=>exact ⟨0,by omega,rfl,by simp,HI0⟩
 case round =>
  clear HI0
  obtain ⟨k,hk,rfl,rfl,HI⟩:=hrel
  by_cases hlt2:2*k+1<n
  ·have hm:=rvK_mid (l:=l) (k:=k) (by rw [HL.out];exact hlt2)
   have c1:wr.cell? ⟨g,k,none⟩=some (.int .i64 (l.getD k 0)):=by rw [HI.out.own.cellAt k (by omega),i64c_at hm.1]
   have c2:wr.cell? ⟨g,n-1-k,none⟩=some (.int .i64 (l.getD (n-1-k) 0)):=by
    rw [HI.out.own.cellAt _ (by omega)]
    have:=hm.2
    rw [HL.out] at this
    exact i64c_at this
   have f1:wr.frozen? ⟨g,k,none⟩=false:=HI.out.own.frozenAt k
   have f2:wr.frozen? ⟨g,n-1-k,none⟩=false:=HI.out.own.frozenAt _
   have g1:decide ((k:Int)<(n:Int)-1-k)=true:=decide_eq_true (by omega)
   obtain ⟨j,hj⟩:∃ j,j=n-1-k:=⟨_,rfl⟩
   have hji:(n:Int)-1-k=j:=by omega
   have HST:=Lib.hid (HI.out.step HL.out hlt2 hg)
   rw [← hj] at c2 f2 HST
   rw [hji] at g1 ⊢
   have hjn:j<n:=by omega
   have hjk:(j:Int)-1=(n:Int)-1-(k+1:Nat):=by omega
   have HJK:=Lib.hid hjk
   have hkn:k<n:=by omega
   have g2:decide (k<j)=true:=decide_eq_true (by omega)
   have hne:¬ k=j:=by omega
   have hne2:¬ j=k:=by omega
   clear hm hji hjk hj
   go_wp2
   go_region
   go_wp2
   go_roundw
   case rel=>exact ⟨k+1,by omega,by go_num,by rw [← HJK.out],HST⟩
   case measure=>first | (simp [intOf];omega) | (simp [intOf])
  ·have hfin:Hid (i64c (rvK l k)=i64c l.reverse):=Lib.hid (by rw [rvK_end (by rw [HL.out];omega)])
   have g1:decide ((k:Int)<(n:Int)-1-k)=false:=decide_eq_false (by omega)
   go_wp2
   first | go_end0 | go_ret
   refine ⟨rfl,?_,HI.out.below,fun i hi=>HI.out.block i fun e=>hi (by rw [e];rfl),HI.out.size⟩
   rw [← hfin.out]
   exact HI.out.own
def chkL (gs:List Gr) (f:Int):Int:=if valid gs false then (if f<0∨(gs.length:Int)≤f then 2 else 0) else 70
theorem lcheck_any (B:Nat) (fo:Option Addr) (nF cF:Nat) (rs:List RG) (f:Int) (w:World) (h:RdP w B fo nF rs) (hB:B≤w.heap.size) :
  Calls Tryd.prog 18 #[.agg #[.slice fo nF cF],.int .i64 f] w fun e w'=>e=.returned (.int .i64 (chkL (grs rs) f))∧Below w.heap.size w w':=by
 have HBL:Hid (Below w.heap.size w (w.alloc (.cells #[.slice fo nF cF] 24))):=(Below.refl _ _).alloc (Nat.le_refl _) _
 have HG:=Lib.hid (Blk.new w 24 #[.slice fo nF cF])
 have HV:=Lib.hid (check_any B fo nF cF rs false (w.alloc (.cells #[.slice fo nF cF] 24)) (h.below (HBL.out.mono hB)) (by simp;omega))
 have HL:Hid ((grs rs).length=nF):=Lib.hid (by rw [length_grs];exact h.len)
 clear h
 by_cases hv:valid (grs rs) false
 ·rw [if_pos hv] at HV
  by_cases h0:f<0
  ·have HC:Hid (chkL (grs rs) f=2):=Lib.hid (by unfold chkL;rw [if_pos hv,if_pos (.inl h0)])
   have g0:decide (f<0)=true:=by simpa using h0
   clear hv h0
   go_enter Tryd.func18,Tryd.ntmps18
   go_wp2_with (go_at_call 37;refine HV.out.mono ?_;rintro e w2 ⟨rfl,hb2⟩;have HB2:=Lib.hid hb2;clear hb2)
   go_ret
   exact ⟨by rw [HC.out];rfl,HBL.out.trans (HB2.out.mono (by simp))⟩
  ·have g0:decide (f<0)=false:=by simpa using h0
   by_cases h1:(nF:Int)≤f
   ·have HC:Hid (chkL (grs rs) f=2):=Lib.hid (by unfold chkL;rw [if_pos hv,HL.out,if_pos (.inr h1)])
    have g1:decide (f≥(nF:Int))=true:=by simpa using h1
    have g2:decide ((nF:Int)≤f)=true:=by simpa using h1
    clear hv h0 h1
    go_enter Tryd.func18,Tryd.ntmps18
    go_wp2_with (go_at_call 37;refine HV.out.mono ?_;rintro e w2 ⟨rfl,hb2⟩;have HB2:=Lib.hid hb2;have g6:w2.cell? ⟨w.heap.size,0,none⟩=some (.slice fo nF cF):=(HG.out.below hb2 HG.out.lt).cell 0;clear hb2)
    go_ret
    exact ⟨by rw [HC.out];rfl,HBL.out.trans (HB2.out.mono (by simp))⟩
   ·have HC:Hid (chkL (grs rs) f=0):=Lib.hid (by unfold chkL;rw [if_pos hv,HL.out,if_neg (fun h=>h.elim h0 h1)])
    have g1:decide (f≥(nF:Int))=false:=by simpa using h1
    have g2:decide ((nF:Int)≤f)=false:=by simpa using h1
    clear hv h0 h1
    go_enter Tryd.func18,Tryd.ntmps18
    go_wp2_with (go_at_call 37;refine HV.out.mono ?_;rintro e w2 ⟨rfl,hb2⟩;have HB2:=Lib.hid hb2;have g6:w2.cell? ⟨w.heap.size,0,none⟩=some (.slice fo nF cF):=(HG.out.below hb2 HG.out.lt).cell 0;clear hb2)
    go_ret
    exact ⟨by rw [HC.out];rfl,HBL.out.trans (HB2.out.mono (by simp))⟩
 ·rw [if_neg hv] at HV
  have HC:Hid (chkL (grs rs) f=70):=Lib.hid (by unfold chkL;rw [if_neg hv])
  clear hv
  go_enter Tryd.func18,Tryd.ntmps18
  go_wp2_with (go_at_call 37;refine HV.out.mono ?_;rintro e w2 ⟨rfl,hb2⟩;have HB2:=Lib.hid hb2;clear hb2)
  go_ret
  exact ⟨by rw [HC.out];rfl,HBL.out.trans (HB2.out.mono (by simp))⟩
def LvPost (L:List Nd→Nat→Nat→List Int) (gs:List Gr) (f:Int) (w:World) (e:Ending) (w':World):Prop :=
 Below w.heap.size w w'∧∃ (A:Option Addr) (n c:Nat),e=.returned (.tuple #[.slice A n c,.int .i64 (chkL gs f)])∧(chkL gs f≠0→A=none∧n=0∧c=0)∧(chkL gs f=0→∃ O vs g,gs[f.toNat]?=some g∧A=some ⟨O,0,none⟩∧n=g.nodes.length∧c=n∧w.heap.size≤O∧RdL w' w.heap.size O n vs (L g.nodes g.kinds.length))
theorem chk_zero {gs:List Gr} {f:Int} (h:chkL gs f=0):valid gs false∧∃ k:Nat,f=k∧k<gs.length:=by
 unfold chkL at h
 split at h
 ·rename_i hv
  split at h
  ·omega
  ·exact ⟨hv,f.toNat,by omega,by omega⟩
 ·omega
theorem in_live (B:Nat) (fo:Option Addr) (nF cF:Nat) (rs:List RG) (f:Int) (w:World) (h:RdP w B fo nF rs) (hB:B≤w.heap.size) (hT:TzTab w) :
  Calls Tryd.prog 7 #[.agg #[.slice fo nF cF],.int .i64 f] w (LvPost liveL (grs rs) f w):=by
 have HBL:Hid (Below w.heap.size w (w.alloc (.cells #[.slice fo nF cF] 24))):=(Below.refl _ _).alloc (Nat.le_refl _) _
 have HG:=Lib.hid (Blk.new w 24 #[.slice fo nF cF])
 have HV:=Lib.hid (lcheck_any B fo nF cF rs f (w.alloc (.cells #[.slice fo nF cF] 24)) (h.below (HBL.out.mono hB)) (by simp;omega))
 have H:=Lib.hid h
 have HT:=Lib.hid hT
 clear h hT
 obtain ⟨z,hz⟩:∃ z,z=chkL (grs rs) f:=⟨_,rfl⟩
 rw [← hz] at HV
 have HZ:=Lib.hid hz
 clear hz
 by_cases h0:z=0
 ·subst h0
  obtain ⟨hv,k,rfl,hk⟩:=chk_zero HZ.out.symm
  have hkF:k<nF:=by rw [length_grs,H.out.len] at hk;exact hk
  obtain ⟨b,off,r,rfl,hb,HX,HRG,HWG,x0,x1,x2,x3,x4,x5,x6,x7⟩:=H.out.gr hkF
  have HXG:Hid ((grs rs)[k]?=some r.gr):=Lib.hid (by unfold grs;rw [List.getElem?_map,HX.out];rfl)
  have hmem:r.gr ∈ grs rs:=List.mem_of_getElem? HXG.out
  have hsz:=valid_sizes hv hmem
  have hrin:=valid_reads hv hmem
  have hnin:=valid_next hv hmem
  rw [← HRG.out.nd] at hrin hnin
  have HSZ:=Lib.hid hsz
  have HAT:Hid (∀ W,Below w.heap.size w W→Calls Tryd.prog 20 #[.agg #[.slice r.po r.gr.params.length r.pc,.slice r.ko r.gr.kinds.length r.kc,.int .i64 r.gr.cells,.slice r.io r.gr.init.length r.ic,.bool r.gr.result,.int .i64 r.gr.keep,.slice r.no r.gr.nodes.length r.nc,.int .i64 r.gr.entry]] W fun e w' =>
   ∃ R wss,e=.returned (.slice (some ⟨R,0,none⟩) r.gr.nodes.length r.gr.nodes.length)∧SetsI w' R r.gr.nodes.length ((r.gr.kinds.length+63) / 64) r.gr.kinds.length wss∧(∀ i p,hasS wss i p=true↔Live (nds r.ns) p i)∧Below W.heap.size W w'∧W.heap.size<R):=Lib.hid fun W hbw =>
    liveAt_any B r.po r.ko r.io r.no r.gr.params.length r.pc r.gr.kinds.length r.kc r.gr.init.length r.ic r.gr.nodes.length r.nc ((r.gr.kinds.length+63) / 64) r.gr.cells r.gr.keep r.gr.entry r.gr.result r.ns W (HRG.out.nodes.below (hbw.mono hB)) (by have:=hbw.size;omega) hsz.2 hsz.1 rfl hnin hrin
  clear hsz hrin hnin hv hk
  go_enter Tryd.func7,Tryd.ntmps7
  go_wp2_with (first
   | (go_at_call 18;refine HV.out.mono ?_;rintro e w2 ⟨rfl,hb2⟩;have HB2:=Lib.hid (HBL.out.trans (hb2.mono HBL.out.size));have g6:w2.cell? ⟨w.heap.size,0,none⟩=some (.slice (some ⟨b,off,none⟩) nF cF):=(HG.out.below hb2 HG.out.lt).cell 0;have bc:=HB2.out;have y0:=(bc.cell (p:=⟨b,off+k*8,none⟩) (by show b<_;omega)).trans x0;have y1:=(bc.cell (p:=⟨b,off+k*8+1,none⟩) (by show b<_;omega)).trans x1;have y2:=(bc.cell (p:=⟨b,off+k*8+2,none⟩) (by show b<_;omega)).trans x2;have y3:=(bc.cell (p:=⟨b,off+k*8+3,none⟩) (by show b<_;omega)).trans x3;have y4:=(bc.cell (p:=⟨b,off+k*8+4,none⟩) (by show b<_;omega)).trans x4;have y5:=(bc.cell (p:=⟨b,off+k*8+5,none⟩) (by show b<_;omega)).trans x5;have y6:=(bc.cell (p:=⟨b,off+k*8+6,none⟩) (by show b<_;omega)).trans x6;have y7:=(bc.cell (p:=⟨b,off+k*8+7,none⟩) (by show b<_;omega)).trans x7;clear hb2 bc)
   | (go_at_call 20;refine (HAT.out _ HB2.out).mono ?_;rintro e w3 ⟨R,wss,rfl,hs3,hl3,hb3,_⟩;have HS3:=Lib.hid hs3;have HL3:=Lib.hid hl3;have HB3:=Lib.hid (HB2.out.trans (hb3.mono HB2.out.size));clear hs3 hl3 hb3)
   | (go_at_call 19;refine (lists_any R _ _ _ wss w3 HS3.out HSZ.out.2 (HT.out.below HB3.out)).mono ?_;rintro e w4 ⟨vs,rfl,hr4,hb4⟩;have HR4:=Lib.hid hr4;have HB4:=Lib.hid (HB3.out.trans (hb4.mono HB3.out.size));clear hr4 hb4))
  go_ret2
  refine ⟨HB4.out,some ⟨w3.heap.size,0,none⟩,r.gr.nodes.length,r.gr.nodes.length,by rw [← HZ.out];rfl,fun h=>absurd HZ.out.symm h,fun _=>⟨w3.heap.size,vs,r.gr,HXG.out,rfl,rfl,rfl,HB3.out.size,HR4.out.row,fun i hi=>?_⟩⟩
  have e1:=liveL_of HS3.out.wf rfl (fun p=>HL3.out i p)
  rw [HRG.out.nd] at e1
  rw [← e1]
  exact own_more (HR4.out.own i hi) HB3.out.size
 ·have g1:(z != 0)=true:=by simpa using h0
  have H0:=Lib.hid h0
  clear h0
  go_enter Tryd.func7,Tryd.ntmps7
  go_wp2_with (first
   | (go_at_call 18;refine HV.out.mono ?_;rintro e w2 ⟨rfl,hb2⟩;have HB2:=Lib.hid (HBL.out.trans (hb2.mono HBL.out.size));clear hb2))
  go_ret2
  exact ⟨HB2.out,none,0,0,by rw [← HZ.out];rfl,fun _=>⟨rfl,rfl,rfl⟩,fun h=>absurd (HZ.out.trans h) H0.out⟩
end Go.Proofs.YtepkogfiojkcpaaDoor
