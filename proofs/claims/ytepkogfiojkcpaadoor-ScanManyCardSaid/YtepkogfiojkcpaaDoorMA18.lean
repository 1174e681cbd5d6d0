/-
  Texts of one seat, one behind the other: JMul, JRp, JAs, JPl, JPm, JPn, JHp, JAsW.
-/
import Derived.Laws.BitsAllLaws
import Derived.Laws.CopyOwn
import Derived.Deep.DeepCutAuto
import Derived.Test.YtepkogfiojkcpaaDoorMA17
import Derived.Test.YtepkogfiojkcpaaDoorMA16

set_option linter.unusedVariables false
set_option linter.unusedSimpArgs false
set_option maxRecDepth 100000
set_option maxHeartbeats 51200000
namespace Go.Proofs.YtepkogfiojkcpaaDoor
open Go.ChangeShapes Go.WideShapes Go.ChangeAt Go.RowKit
theorem and_low (n:Nat) (hn:n<4294967296):bits .and .u64 (n:Int) 4294967295=n:=by
 rw [show (4294967295:Int)=((4294967295:Nat):Int) from rfl,u64_and_nat n 4294967295 (by omega) (by omega),show (4294967295:Nat)=2 ^ 32-1 from rfl,Nat.and_two_pow_sub_one_eq_mod,Nat.mod_eq_of_lt (by omega)]
theorem mul64_one (n:Nat) (hn:n≤4000) (w:World):Calls Tryd.prog 97 #[.int .u64 1,.int .u64 n] w fun e w'=>e=.returned (.tuple #[.int .u64 0,.int .u64 n])∧w'=w:=by
 have h1:bits .and .u64 1 4294967295=1:=and_low 1 (by decide)
 have h2:bits .and .u64 (n:Int) 4294967295=n:=and_low n (by omega)
 have h0:bits .and .u64 0 4294967295=0:=and_low 0 (by decide)
 have h3:(n:Int) / 4294967296=0:=by omega
 have h4:IntKind.u64.wrap (n:Int)=n:=by rw [IntKind.wrap_u64];omega
 have h5:IntKind.u64.wrap 0=0:=by decide
 go_enter Tryd.func97,Tryd.ntmps97
 go_wp2
 first | go_ret2 | go_end0
 exact ⟨rfl,rfl⟩
theorem mul_one' (n:Nat) (hn:n≤4000) (w:World):Calls Tryd.prog 73 #[.int .u64 1,.int .u64 n] w fun e w'=>e=.returned (.tuple #[.int .u64 0,.int .u64 n])∧w'=w:=by
 have HM:=Lib.hid (mul64_one n hn w)
 have h4:IntKind.u64.wrap (n:Int)=n:=by rw [IntKind.wrap_u64];omega
 go_enter Tryd.func73,Tryd.ntmps73
 go_wp2_with (go_at_call 97;refine HM.out.mono ?_;rintro e w2 ⟨rfl,rfl⟩)
 go_ret2
 exact ⟨rfl,rfl⟩
def rpL (v z:Value) (k m:Nat):List Value:=List.replicate k v ++ List.replicate (m-k) z
theorem rpL_len (v z:Value) {k m:Nat} (hk:k≤m):(rpL v z k m).length=m:=by simp [rpL];omega
theorem rpL_splice (v z:Value) {k c m:Nat} (h:k+c≤m):splice (rpL v z k m) k (List.replicate c v)=rpL v z (k+c) m:=by
 unfold splice rpL
 rw [List.take_left' (by simp),List.length_replicate,List.drop_append,List.length_replicate,List.drop_of_length_le (by simp),List.nil_append,List.drop_replicate,← List.append_assoc,List.replicate_append_replicate]
 congr 2
 omega
theorem rpL_at (v z:Value) {k j m:Nat} (h:j<k):(rpL v z k m)[j]?=some v:=by
 unfold rpL
 rw [List.getElem?_append_left (by simpa using h),List.getElem?_replicate,if_pos h]
theorem rpL_full (v z:Value) (m:Nat):(rpL v z m m).toArray=rowA m fun _=>v:=by
 unfold rpL rowA
 congr 1
 apply List.ext_getElem?
 intro i
 simp [List.getElem?_replicate,List.getElem?_map]
 by_cases h:i<m
 ·rw [if_pos h,List.getElem?_range h];rfl
 ·rw [if_neg h,List.getElem?_eq_none (by simpa using h)];rfl

theorem repeat_any (X m:Nat) (w:World) (hX:Blk w X 3 #[.int .i64 (-1)]) (hm:m≤1024) :
  Calls Tryd.prog 53 #[.slice (some ⟨X,0,none⟩) 1 1,.int .i64 m] w fun e w'=>e=.returned (.slice (some ⟨w.heap.size,0,none⟩) m m)∧Blk w' w.heap.size 3 (rowA m fun _=>.int .i64 (-1))∧Below w.heap.size w w':=by
 have HMU:=Lib.hid (mul_one' m (by omega) w)
 have hmk:∀ W:World,(Instr.makeSlice 34 (.int .i64 m) (.int .i64 m)).run Tryd.prog W=.ok (.slice (some ⟨W.heap.size,0,none⟩) m m) (W.alloc (.cells (madeCells #[.int .i64 0] m) 3)):=fun W=>run_make_row' _ _ _ 8 Tryd.underlying34 Tryd.info3 rfl .i64 .i64 m (by omega) (by omega) W
 have hwu:IntKind.u64.wrap (m:Int)=m:=by rw [IntKind.wrap_u64];omega
 have hwi:IntKind.i64.wrap (m:Int)=m:=by rw [IntKind.wrap_i64];omega
 have hw1:IntKind.u64.wrap 1=1:=by decide
 have g1:¬ (m:Int)<0:=by omega
 have g2:¬ (m:Int) > 9223372036854775807:=by omega
 have HX:=Lib.hid hX
 have hxl:=hX.lt
 have H0:Hid ((w.alloc (.cells (madeCells #[.int .i64 0] m) 3)).heap[w.heap.size]?=some (.cells (rpL (.int .i64 (-1)) (.int .i64 0) 0 m).toArray 3 (0,0))):=Lib.hid (by
  have h:=Blk.new w 3 (madeCells #[.int .i64 0] m)
  have e:madeCells #[.int .i64 0] m=(rpL (.int .i64 (-1)) (.int .i64 0) 0 m).toArray:=by
   rw [rowA_made]
   unfold rpL rowA
   congr 1
   apply List.ext_getElem?
   intro i
   simp [List.getElem?_replicate,List.getElem?_map]
   by_cases h:i<m
   ·rw [if_pos h,List.getElem?_range h];rfl
   ·rw [if_neg h,List.getElem?_eq_none (by simpa using h)];rfl
  rw [← e]
  exact h)
 have HB0:Hid (Below w.heap.size w (w.alloc (.cells (madeCells #[.int .i64 0] m) 3))):=Lib.hid ((Below.refl _ _).alloc (Nat.le_refl _) _)
 obtain ⟨c,hc⟩:∃ c,c=Nat.min 1 m:=⟨_,rfl⟩
 have hc2:c≤m∧(1≤c∨m=0)∧c≤1:=by
  rw [hc]
  show min 1 m≤m∧(1≤min 1 m∨m=0)∧min 1 m≤1
  omega
 have HC:=Lib.hid hc
 have HC2:=Lib.hid hc2
 have HS:Hid (∀ (o:Obj) j v,(List.replicate c (Value.int .i64 (-1)))[j]?=some v→(w.alloc o).cell? ((⟨X,0,none⟩:Addr).add j)=some v):=Lib.hid fun o j v hj=>by
  rw [List.getElem?_replicate] at hj
  by_cases hjc:j<c
  ·rw [if_pos hjc] at hj
   injection hj with hj
   obtain rfl:j=0:=by omega
   rw [← hj]
   exact (HX.out.alloc o).cell 0
  ·rw [if_neg hjc] at hj;cases hj
 have HFI:Hid (0+(List.replicate c (Value.int .i64 (-1))).length≤(rpL (.int .i64 (-1)) (.int .i64 0) 0 m).length):=Lib.hid (by rw [rpL_len _ _ (by omega),List.length_replicate];omega)
 have HO1:Hid (∀ c,∀ v ∈ List.replicate c (Value.int .i64 (-1)),v.oneCell'=true):=Lib.hid fun c v hv=>by rw [(List.mem_replicate.1 hv).2];rfl
 clear hX hc hc2
 go_enter Tryd.func53,Tryd.ntmps53
 go_wp2_with (first
  | (go_at_call 73;refine HMU.out.mono ?_;rintro e w2 ⟨rfl,rfl⟩)
  | (refine wpList_copy_splice rfl _ _ 34 34 rfl 3 Tryd.underlying34 (by kernel_rfl) (some ⟨w2.heap.size,0,none⟩) (some ⟨X,0,none⟩) m m 1 1 rfl rfl w2.heap.size 0 _ _ H0.out (List.replicate c (.int .i64 (-1))) (by rw [List.length_replicate];exact HC.out) (fun hp=>⟨rfl,_,rfl,HS.out _⟩) HFI.out (HO1.out c) w2.heap.size w2 HB0.out (Nat.le_refl _) ?_;intro w3 h3 hb3;have H3:=Lib.hid h3;have HB3:=Lib.hid hb3;clear h3 hb3)
  | go_in)
 have H4:Hid (w3.heap[w2.heap.size]?=some (.cells (rpL (.int .i64 (-1)) (.int .i64 0) c m).toArray 3 (0,0))):=Lib.hid (by
  have h:=H3.out
  rw [rpL_splice _ _ (by rw [Nat.zero_add];exact HC2.out.1),Nat.zero_add] at h
  exact h)
 clear H3 H0 HB0 HMU HS HFI hmk
 obtain ⟨g,hg⟩:∃ g,g=w2.heap.size:=⟨_,rfl⟩
 have HG:=Lib.hid hg
 rw [← hg] at H4 HB3 ⊢
 clear hg
 go_loopw [8] (fun s wr=>∃ k:Nat,s=.int .i64 k∧Hid (1≤k∨m=0)∧k≤m∧Hid (wr.heap[g]?=some (.cells (rpL (.int .i64 (-1)) (.int .i64 0) k m).toArray 3 (0,0)))∧Hid (Below g w2 wr)) (fun s _=>m-(intOf s).toNat)
 case atStart=>exact ⟨c,by simp [goInt],Lib.hid HC2.out.2.1,HC2.out.1,H4,HB3⟩
 case round =>
  clear H4 HB3
  obtain ⟨k,rfl,hk1,hk,HR,HB⟩:=hrel
  by_cases hlt:k<m
  ·have hk0:0<k:=by have:=hk1.out;omega
   obtain ⟨c2,hc2⟩:∃ c2,c2=Nat.min k (m-k):=⟨_,rfl⟩
   have hcc:c2≤m-k∧c2≤k∧0<c2:=by
    rw [hc2]
    show min k (m-k)≤m-k∧min k (m-k)≤k∧0<min k (m-k)
    omega
   have HC3:=Lib.hid hc2
   have HS:Hid (∀ j v,(List.replicate c2 (Value.int .i64 (-1)))[j]?=some v→wr.drew.cell? ((⟨g,0,none⟩:Addr).add j)=some v):=Lib.hid fun j v hj=>by
    rw [List.getElem?_replicate] at hj
    by_cases hjc:j<c2
    ·rw [if_pos hjc] at hj
     have ea:(⟨g,0,none⟩:Addr).add j=⟨g,j,none⟩:=by simp [Addr.add];exact Eq.symm
     have hb:Blk wr.drew g 3 (rpL (.int .i64 (-1)) (.int .i64 0) k m).toArray:=HR.out
     rw [ea,hb.cell,List.getElem?_toArray,rpL_at _ _ (by omega),← hj]
    ·rw [if_neg hjc] at hj;cases hj
   have HFI:Hid (k+(List.replicate c2 (Value.int .i64 (-1))).length≤(rpL (.int .i64 (-1)) (.int .i64 0) k m).length):=Lib.hid (by rw [rpL_len _ _ hk,List.length_replicate];omega)
   have HNX:Hid (∀ w':World,Hid (w'.heap[g]?=some (.cells (splice (rpL (.int .i64 (-1)) (.int .i64 0) k m) k (List.replicate c2 (.int .i64 (-1)))).toArray 3 (0,0)))→w'.heap[g]?=some (.cells (rpL (.int .i64 (-1)) (.int .i64 0) (k+c2) m).toArray 3 (0,0))):=Lib.hid fun w' h=>by
    have h:=h.out
    rw [rpL_splice _ _ (by omega)] at h
    exact h
   have HCC:=Lib.hid hcc
   have hne:¬ m=k:=by omega
   have HRD:Hid (wr.drew.heap[g]?=some (.cells (rpL (.int .i64 (-1)) (.int .i64 0) k m).toArray 3 (0,0))):=HR
   have HBD:Hid (Below g w2 wr.drew):=Lib.hid HB.out.drew
   obtain ⟨W5,hrun,H5,HB5⟩:∃ W5,(Builtin.copy_ #[34,34] 3 #[.slice (some ⟨g,k,none⟩) (m-k) (m-k),.slice (some ⟨g,0,none⟩) k m]).run Tryd.prog wr.drew=.ok (.int .i64 c2) W5 ∧
     Hid (W5.heap[g]?=some (.cells (rpL (.int .i64 (-1)) (.int .i64 0) (k+c2) m).toArray 3 (0,0)))∧Hid (Below g w2 W5):=by
    have h:=run_copy_row (P:=Tryd.prog) wr.drew 34 34 3 3 g k (m-k) (m-k) ⟨g,0,none⟩ k m _ 3 (List.replicate c2 (.int .i64 (-1))) Tryd.underlying34 (by kernel_rfl) HRD.out (by rw [List.length_replicate];exact HC3.out) HS.out (by have:=HFI.out;simpa using this) (HO1.out c2)
    refine ⟨_,by rw [h,List.length_replicate];rfl,Lib.hid (HNX.out _ (Lib.hid ?_)),Lib.hid (below_setRow HBD.out (Nat.le_refl _) _)⟩
    have h6:=setRow_heap wr.drew g _ (splice (rpL (.int .i64 (-1)) (.int .i64 0) k m) k (List.replicate c2 (.int .i64 (-1)))).toArray 3 _ HRD.out
    simpa [splice] using h6
   have hkc:k+c2≤m:=by omega
   have hc0:0<c2:=hcc.2.2
   clear hc2 hcc HR HB
   go_wp2
   go_region
   all_goals
    go_wp2
    go_roundw
    case rel=>exact ⟨k+c2,by go_num,Lib.hid (Or.inl (by omega)),hkc,H5,HB5⟩
    case measure=>simp [intOf];omega
  ·obtain rfl:m=k:=by omega
   go_wp2
   first | go_end0 | go_ret
   have h:=HR.out
   rw [rpL_full] at h
   rw [HG.out]
   exact ⟨rfl,by rw [← HG.out];exact h,by rw [← HG.out];exact HB.out⟩
structure ASt where
 bd:Nat→Int
 L:Nat→List Int
 nx:Int
 us:List U3
def asE (st:ASt) (s:Iv):(Nat→List Int) × List U3:=endB s.f st.us.length st.L st.us
def asL (kd:Nat→Nat) (st:ASt) (s:Iv):Nat→List Int:=lfL s.h (kd s.p.toNat) (asE st s).1 st.nx
def asI (kd:Nat→Nat) (st:ASt) (s:Iv):Nat:=lfI s.h (kd s.p.toNat) (asE st s).1
def asN (kd:Nat→Nat) (st:ASt) (s:Iv):Nat:=(asL kd st s (asI kd st s)).length-1
def asB (kd:Nat→Nat) (st:ASt) (s:Iv):Int:=(asL kd st s (asI kd st s)).getD (asN kd st s) 0
def asStep (kd:Nat→Nat) (st:ASt) (s:Iv):ASt :=
 ⟨upd st.bd s.p.toNat (asB kd st s),upd (asL kd st s) (asI kd st s) ((asL kd st s (asI kd st s)).take (asN kd st s)),lfX s.h (kd s.p.toNat) (asE st s).1 st.nx,tkU (asE st s).2 ⟨asB kd st s,s.t,asI kd st s⟩⟩
def as0:ASt:=⟨fun _=>-1,newL 6,16,[]⟩
def asRun (kd:Nat→Nat) (S:Nat→Iv):Nat→ASt
 | 0=>as0
 | i+1=>asStep kd (asRun kd S i) (S i)

structure AsOk (i:Nat) (st:ASt):Prop where
 uok:UOk st.us
 nx:16≤st.nx∧st.nx≤16+i
 len:∀ l,l<4→(st.L l).length+st.us.length≤16+i
theorem as0_ok:AsOk 0 as0:=⟨fun k=>by simp [as0,u0],by simp [as0],fun l hl=>by have:=newL_len 6 l;simp [as0];omega⟩
theorem lfL_other {held:Bool} {kd:Nat} {L:Nat→List Int} {nx:Int} {l:Nat} (h:l≠lfI held kd L):lfL held kd L nx l=L l:=by
 unfold lfL
 by_cases e:lfN held kd (L 0).length (L 1).length (L (2+kd)).length=true
 ·rw [if_pos e]
  have e2:lfI held kd L=2+kd:=by
   unfold lfN at e
   simp at e
   exact e.1
  rw [upd_ne (by rw [← e2];exact h)]
 ·rw [if_neg e]
theorem lfL_len {held:Bool} {kd:Nat} {L:Nat→List Int} {nx:Int} (l:Nat):(lfL held kd L nx l).length≤(L l).length+1:=by
 unfold lfL
 split
 ·by_cases e:l=2+kd
  ·rw [e,upd_at];simp
  ·rw [upd_ne e];omega
 ·omega
theorem tkU_len (us:List U3) (u:U3):(tkU us u).length=us.length+1:=by unfold tkU;rw [upU_len];simp
theorem as_step {kd:Nat→Nat} {st:ASt} {s:Iv} {i:Nat} (h:AsOk i st) (hk:kd s.p.toNat<2) (hU:UOk (asE st s).2) (hN:∀ l,l<4→((asE st s).1 l).length+(asE st s).2.length≤16+i):AsOk (i+1) (asStep kd st s):=by
 refine ⟨(hU.push (u:=⟨asB kd st s,s.t,asI kd st s⟩) (lfI_lt hk)).up _ _ _,?_,fun l hl=>?_⟩
 ·have:=h.nx
  show 16≤lfX s.h (kd s.p.toNat) (asE st s).1 st.nx∧lfX s.h (kd s.p.toNat) (asE st s).1 st.nx≤16+((i+1:Nat):Int)
  unfold lfX
  split <;> omega
 ·show (upd (asL kd st s) (asI kd st s) ((asL kd st s (asI kd st s)).take (asN kd st s)) l).length+(tkU (asE st s).2 _).length≤16+(i+1)
  rw [tkU_len]
  have h1:=hN l hl
  by_cases e:l=asI kd st s
  ·rw [e,upd_at,List.length_take]
   have h2:(asL kd st s (asI kd st s)).length≤((asE st s).1 (asI kd st s)).length+1:=lfL_len _
   rw [e] at h1
   unfold asN
   omega
  ·rw [upd_ne e,show asL kd st s l=(asE st s).1 l from lfL_other e]
   omega
theorem swU_at {us:List U3} {i j:Nat} (hi:i<us.length) (hj:j<us.length) (k:Nat):(swU us i j).getD k u0=if k=j then us.getD i u0 else if k=i then us.getD j u0 else us.getD k u0:=by
 unfold swU
 rw [getD_set (by rw [List.length_set];exact hj),getD_set hi]
def UPrm (n:Nat) (us vs:List U3):Prop:=Prm n (fun k=>us.getD k u0) (fun k=>vs.getD k u0)
theorem uprm_sw {us:List U3} {i j n:Nat} (hi:i<n) (hj:j<n) (hn:n≤us.length):UPrm n us (swU us i j):=by
 have h:=Prm.sw (m:=n) (fun k=>us.getD k u0) hi hj
 unfold UPrm
 have e:(fun k=>(swU us i j).getD k u0)=sw (fun k=>us.getD k u0) i j:=by
  funext k
  rw [swU_at (by omega) (by omega),sw_at]
 rw [e]
 exact h
theorem UPrm.refl (n:Nat) (us:List U3):UPrm n us us:=Prm.refl _ _
theorem UPrm.trans {n:Nat} {a b c:List U3} (h:UPrm n a b) (k:UPrm n b c):UPrm n a c:=Prm.trans h k
theorem upU_prm:∀ (f:Nat) (us:List U3) (j:Nat),j<us.length→UPrm us.length us (upU f us j)
 | 0,us,j,_=>UPrm.refl _ _
 | f+1,us,j,h=>by
  unfold upU
  split
  ·exact UPrm.refl _ _
  ·have h1:=uprm_sw (us:=us) (i:=(j-1) / 2) (j:=j) (n:=us.length) (by omega) h (Nat.le_refl _)
   have h2:=upU_prm f (swU us ((j-1) / 2) j) ((j-1) / 2) (by rw [swU_len];omega)
   rw [swU_len] at h2
   exact h1.trans h2
theorem chD_le (us:List U3) {i n:Nat} (h:¬ n≤2*i+1):i<chD us i n∧chD us i n<n:=by
 unfold chD
 split <;> omega
theorem downU_prm:∀ (f:Nat) (us:List U3) (i n:Nat),n≤us.length→UPrm n us (downU f us i n)∧∀ k,n≤k→(downU f us i n).getD k u0=us.getD k u0
 | 0,us,i,n,_=>⟨UPrm.refl _ _,fun _ _=>rfl⟩
 | f+1,us,i,n,h=>by
  unfold downU
  split
  ·exact ⟨UPrm.refl _ _,fun _ _=>rfl⟩
  ·rename_i hc
   split
   ·exact ⟨UPrm.refl _ _,fun _ _=>rfl⟩
   ·have hch:=chD_le us hc
    have h1:=uprm_sw (us:=us) (i:=i) (j:=chD us i n) (n:=n) (by omega) hch.2 h
    obtain ⟨h2,h3⟩:=downU_prm f (swU us i (chD us i n)) (chD us i n) n (by rw [swU_len];exact h)
    refine ⟨h1.trans h2,fun k hk=>?_⟩
    rw [h3 k hk,swU_at (by omega) (by omega),if_neg (by omega),if_neg (by omega)]
theorem popU_prm {us:List U3} {f:Nat} (h:us.length=f+1):UPrm (f+1) us (popU us)∧(popU us).getD f u0=us.getD 0 u0:=by
 unfold popU
 rw [h,show f+1-1=f from rfl]
 have h1:=uprm_sw (us:=us) (i:=0) (j:=f) (n:=f+1) (by omega) (by omega) (by omega)
 obtain ⟨h2,h3⟩:=downU_prm (f+1) (swU us 0 f) 0 f (by rw [swU_len];omega)
 have e:(downU (f+1) (swU us 0 f) 0 f).getD f u0=us.getD 0 u0:=by rw [h3 f (Nat.le_refl _),swU_at (by omega) (by omega),if_pos rfl]
 refine ⟨h1.trans ?_,e⟩
 obtain ⟨π,ρ,hp⟩:=h2
 refine ⟨fun k=>if k<f then π k else k,fun k=>if k<f then ρ k else k,fun k hk=>?_⟩
 by_cases hkf:k<f
 ·obtain ⟨a1,a2,a3,a4,a5⟩:=hp k hkf
  simp only [if_pos hkf,if_pos a1,if_pos a2]
  exact ⟨by omega,by omega,a3,a4,a5⟩
 ·have hke:k=f:=by omega
  subst hke
  simp only [if_neg hkf]
  exact ⟨hk,hk,trivial,trivial,h3 k (Nat.le_refl _)⟩

def DomF (fam:Int→Nat) (nx x:Int):Prop:=(fam x=0∧0≤x∧x<6)∨(fam x=1∧6≤x∧x<12)∨((fam x=2∨fam x=3)∧16≤x∧x<nx)
structure PI (fam:Int→Nat) (L:Nat→List Int) (nx:Int) (us:List U3):Prop where
 nd:∀ l,l<4→(L l).Nodup
 fl:∀ l,l<4→∀ x ∈ L l,fam x=l∧DomF fam nx x
 fu:∀ i,i<us.length→fam (us.getD i u0).b=(us.getD i u0).l∧DomF fam nx (us.getD i u0).b
 dis:∀ i,i<us.length→(us.getD i u0).b ∉ L (us.getD i u0).l
 inj:∀ i j,i<us.length→j<us.length→(us.getD i u0).b=(us.getD j u0).b→i=j
def InU (us:List U3) (u:U3):Prop:=∃ i,i<us.length∧us.getD i u0=u
section
variable {fam:Int→Nat} {L:Nat→List Int} {nx:Int} {us vs:List U3}
theorem PI.l4 (h:PI fam L nx us) {i:Nat} (hi:i<us.length):(us.getD i u0).l<4:=by
 obtain ⟨h1,h2⟩:=h.fu i hi
 rw [← h1]
 rcases h2 with ⟨e,_⟩ | ⟨e,_⟩ | ⟨e | e,_⟩ <;> rw [e] <;> omega
theorem PI.prm (h:PI fam L nx us) (hp:UPrm us.length us vs) (hl:vs.length=us.length):PI fam L nx vs:=by
 obtain ⟨π,ρ,hπ⟩:=hp
 refine ⟨h.nd,h.fl,fun i hi=>?_,fun i hi=>?_,fun i j hi hj e=>?_⟩
 ·obtain ⟨a1,_,_,_,a5⟩:=hπ i (by omega)
  simp only at a5
  rw [a5];exact h.fu _ a1
 ·obtain ⟨a1,_,_,_,a5⟩:=hπ i (by omega)
  simp only at a5
  rw [a5];exact h.dis _ a1
 ·obtain ⟨a1,_,_,a4,a5⟩:=hπ i (by omega)
  obtain ⟨b1,_,_,b4,b5⟩:=hπ j (by omega)
  simp only at a5 b5
  rw [a5,b5] at e
  have:=h.inj _ _ a1 b1 e
  rw [← a4,← b4,this]
theorem InU.prm (hp:UPrm us.length us vs) (hl:vs.length=us.length) (u:U3):InU us u↔InU vs u:=by
 obtain ⟨π,ρ,hπ⟩:=hp
 constructor
 ·rintro ⟨i,hi,e⟩
  obtain ⟨a1,a2,a3,a4,a5⟩:=hπ i hi
  obtain ⟨b1,b2,b3,b4,b5⟩:=hπ (ρ i) a2
  simp only at b5
  exact ⟨ρ i,by omega,by rw [b5,a3,e]⟩
 ·rintro ⟨i,hi,e⟩
  obtain ⟨a1,a2,a3,a4,a5⟩:=hπ i (by omega)
  simp only at a5
  exact ⟨π i,a1,by rw [← a5,e]⟩
theorem take_getD (vs:List U3) {f k:Nat} (h:k<f):(vs.take f).getD k u0=vs.getD k u0:=by
 rw [List.getD_eq_getElem?_getD,List.getElem?_take,if_pos h,← List.getD_eq_getElem?_getD]
theorem PI.pop (h:PI fam L nx us) {f:Nat} (hf:us.length=f+1):PI fam (upd L ((popU us).getD f u0).l (L ((popU us).getD f u0).l ++ [((popU us).getD f u0).b])) nx ((popU us).take f):=by
 have hl:(popU us).length=us.length:=popU_len us
 have h1:=h.prm (by rw [hf];exact (popU_prm hf).1) hl
 have ht:((popU us).take f).length=f:=by rw [List.length_take];omega
 have hfl:f<(popU us).length:=by omega
 have l4:=h1.l4 hfl
 have hu:=h1.fu f hfl
 have hd:=h1.dis f hfl
 refine ⟨fun l hl4=>?_,fun l hl4 x hx=>?_,fun i hi=>?_,fun i hi=>?_,fun i j hi hj e=>?_⟩
 ·by_cases e:l=((popU us).getD f u0).l
  ·rw [e,upd_at]
   refine List.nodup_append.2 ⟨h1.nd _ l4,by simp,fun a ha b hb=>?_⟩
   rw [List.mem_singleton] at hb
   rw [hb]
   exact fun e2=>hd (by rw [← e2];exact ha)
  ·rw [upd_ne e];exact h1.nd l hl4
 ·by_cases e:l=((popU us).getD f u0).l
  ·rw [e,upd_at] at hx
   rcases List.mem_append.1 hx with h2 | h2
   ·rw [e];exact h1.fl _ l4 x h2
   ·rw [List.mem_singleton] at h2
    rw [h2,e]
    exact hu
  ·rw [upd_ne e] at hx;exact h1.fl l hl4 x hx
 ·rw [ht] at hi
  rw [take_getD _ hi]
  exact h1.fu i (by omega)
 ·rw [ht] at hi
  rw [take_getD _ hi]
  by_cases e:((popU us).getD i u0).l=((popU us).getD f u0).l
  ·rw [e,upd_at]
   intro h2
   rcases List.mem_append.1 h2 with h3 | h3
   ·rw [← e] at h3;exact h1.dis i (by omega) h3
   ·rw [List.mem_singleton] at h3
    have:=h1.inj i f (by omega) hfl h3
    omega
  ·rw [upd_ne e];exact h1.dis i (by omega)
 ·rw [ht] at hi hj
  rw [take_getD _ hi,take_getD _ hj] at e
  exact h1.inj i j (by omega) (by omega) e
theorem endB_pi (p:Int):∀ (f:Nat) (L:Nat→List Int) (us:List U3),us.length=f→PI fam L nx us→PI fam (endB p f L us).1 nx (endB p f L us).2∧(∀ u,InU us u→InU (endB p f L us).2 u∨u.t<p)
 | 0,L,us,_,h=>⟨h,fun u hu=>.inl hu⟩
 | f+1,L,us,hf,h=>by
  unfold endB
  by_cases c:(us.getD 0 u0).t<p
  ·rw [if_pos c]
   have hl:(popU us).length=us.length:=popU_len us
   have ht:((popU us).take f).length=f:=by rw [List.length_take];omega
   obtain ⟨r1,r2⟩:=endB_pi p f _ _ ht (h.pop hf)
   refine ⟨r1,fun u hu=>?_⟩
   obtain ⟨i,hi,e⟩:=(InU.prm (by rw [hf];exact (popU_prm hf).1) hl u).1 hu
   by_cases hif:i<f
   ·exact r2 u ⟨i,by omega,by rw [take_getD _ hif];exact e⟩
   ·have:i=f:=by omega
    subst this
    right
    rw [← e,(popU_prm hf).2]
    exact c
  ·rw [if_neg c]
   exact ⟨h,fun u hu=>.inl hu⟩
end
section
variable {fam:Int→Nat} {L:Nat→List Int} {nx:Int} {us vs:List U3}
theorem app_getD (us:List U3) (u:U3) (k:Nat):(us ++ [u]).getD k u0=if k<us.length then us.getD k u0 else if k=us.length then u else u0:=by
 rw [List.getD_eq_getElem?_getD]
 by_cases h:k<us.length
 ·rw [if_pos h,List.getElem?_append_left h,← List.getD_eq_getElem?_getD]
 ·rw [if_neg h,List.getElem?_append_right (by omega)]
  by_cases e:k=us.length
  ·rw [if_pos e,e,Nat.sub_self];rfl
  ·rw [if_neg e,List.getElem?_eq_none (by simp;omega)];rfl
theorem last_split {l:List Int} {k:Nat} (h:l.length=k+1):l=l.take k ++ [l.getD k 0]:=by
 have h1:=List.take_append_drop k l
 have h2:l.drop k=[l.getD k 0]:=by
  rw [List.drop_eq_getElem_cons (by omega),List.drop_of_length_le (by omega),List.getD_eq_getElem?_getD,List.getElem?_eq_getElem (by omega)]
  rfl
 rw [← h2,h1]
theorem PI.takeL (h:PI fam L nx us) {i:Nat} (hi:i<4) {k:Nat} (hk:(L i).length=k+1) (t:Int) :
  PI fam (upd L i ((L i).take k)) nx (us ++ [⟨(L i).getD k 0,t,i⟩])∧fam ((L i).getD k 0)=i∧DomF fam nx ((L i).getD k 0)∧∀ j,j<us.length→(us.getD j u0).b≠(L i).getD k 0:=by
 have hs:=last_split hk
 have hmem:(L i).getD k 0 ∈ L i:=by
  rw [List.getD_eq_getElem?_getD,List.getElem?_eq_getElem (by omega)]
  exact List.getElem_mem _
 have hnd:=h.nd i hi
 rw [hs] at hnd
 obtain ⟨n1,n2,n3⟩:=List.nodup_append.1 hnd
 have hni:(L i).getD k 0 ∉ (L i).take k:=fun hm=>n3 _ hm _ (by simp) rfl
 obtain ⟨f1,f2⟩:=h.fl i hi _ hmem
 have hne:∀ j,j<us.length→(us.getD j u0).b≠(L i).getD k 0:=fun j hj e=>by
  have h1:=(h.fu j hj).1
  rw [e,f1] at h1
  have h2:=h.dis j hj
  rw [e,← h1] at h2
  exact h2 hmem
 have hlen:(us ++ [(⟨(L i).getD k 0,t,i⟩:U3)]).length=us.length+1:=by simp
 refine ⟨⟨fun l hl=>?_,fun l hl x hx=>?_,fun j hj=>?_,fun j hj=>?_,fun a b ha hb e=>?_⟩,f1,f2,hne⟩
 ·by_cases e:l=i
  ·rw [e,upd_at];exact n1
  ·rw [upd_ne e];exact h.nd l hl
 ·by_cases e:l=i
  ·rw [e,upd_at] at hx;rw [e];exact h.fl i hi x (List.mem_of_mem_take hx)
  ·rw [upd_ne e] at hx;exact h.fl l hl x hx
 ·rw [app_getD]
  by_cases c:j<us.length
  ·rw [if_pos c];exact h.fu j c
  ·rw [if_neg c,if_pos (by omega)];exact ⟨f1,f2⟩
 ·rw [app_getD]
  by_cases c:j<us.length
  ·rw [if_pos c]
   by_cases e:(us.getD j u0).l=i
   ·rw [e,upd_at]
    intro hm
    have:=h.dis j c
    rw [e] at this
    exact this (List.mem_of_mem_take hm)
   ·rw [upd_ne e];exact h.dis j c
  ·rw [if_neg c,if_pos (by omega)]
   show (L i).getD k 0 ∉ upd L i ((L i).take k) i
   rw [upd_at];exact hni
 ·rw [app_getD,app_getD] at e
  by_cases c:a<us.length
  ·rw [if_pos c] at e
   by_cases c2:b<us.length
   ·rw [if_pos c2] at e;exact h.inj a b c c2 e
   ·rw [if_neg c2,if_pos (by omega)] at e;exact absurd e (hne a c)
  ·rw [if_neg c,if_pos (by omega)] at e
   by_cases c2:b<us.length
   ·rw [if_pos c2] at e;exact absurd e.symm (hne b c2)
   ·omega
theorem PI.slot (h:PI fam L nx us) (hnx:16≤nx) {kd:Nat} (hk:kd<2) (h0:L (2+kd)=[]) :
  PI (fun y=>if y=nx then 2+kd else fam y) (upd L (2+kd) [nx]) (nx+1) us∧∀ x,DomF fam nx x→(if x=nx then 2+kd else fam x)=fam x∧DomF (fun y=>if y=nx then 2+kd else fam y) (nx+1) x:=by
 have hold:∀ x,DomF fam nx x→(if x=nx then 2+kd else fam x)=fam x∧DomF (fun y=>if y=nx then 2+kd else fam y) (nx+1) x:=fun x hx=>by
  have hne:x≠nx:=by
   rcases hx with ⟨_,h1,h2⟩ | ⟨_,h1,h2⟩ | ⟨_,h1,h2⟩ <;> omega
  refine ⟨if_neg hne,?_⟩
  unfold DomF at hx ⊢
  simp only [if_neg hne]
  rcases hx with ⟨h0,h1,h2⟩ | ⟨h0,h1,h2⟩ | ⟨h0,h1,h2⟩
  ·exact .inl ⟨h0,h1,h2⟩
  ·exact .inr (.inl ⟨h0,h1,h2⟩)
  ·exact .inr (.inr ⟨h0,h1,by omega⟩)
 refine ⟨⟨fun l hl=>?_,fun l hl x hx=>?_,fun i hi=>?_,fun i hi=>?_,h.inj⟩,hold⟩
 ·by_cases e:l=2+kd
  ·rw [e,upd_at];simp
  ·rw [upd_ne e];exact h.nd l hl
 ·by_cases e:l=2+kd
  ·rw [e,upd_at] at hx
   rw [List.mem_singleton] at hx
   rw [hx,e]
   refine ⟨if_pos rfl,.inr (.inr ⟨?_,hnx,by omega⟩)⟩
   simp only [if_true]
   omega
  ·rw [upd_ne e] at hx
   obtain ⟨h1,h2⟩:=h.fl l hl x hx
   have h3:=hold x h2
   exact ⟨by show (if x=nx then 2+kd else fam x)=l;rw [h3.1];exact h1,h3.2⟩
 ·obtain ⟨h1,h2⟩:=h.fu i hi
  have h3:=hold _ h2
  exact ⟨by show (if (us.getD i u0).b=nx then 2+kd else fam _)=_;rw [h3.1];exact h1,h3.2⟩
 ·by_cases e:(us.getD i u0).l=2+kd
  ·rw [e,upd_at,List.mem_singleton]
   obtain ⟨h1,h2⟩:=h.fu i hi
   rcases h2 with ⟨_,h3,h4⟩ | ⟨_,h3,h4⟩ | ⟨_,h3,h4⟩ <;> omega
  ·rw [upd_ne e];exact h.dis i hi
theorem lfN_I {held:Bool} {kd:Nat} {L:Nat→List Int} (h:lfN held kd (L 0).length (L 1).length (L (2+kd)).length=true):lfI held kd L=2+kd∧L (2+kd)=[]:=by
 unfold lfN at h
 simp at h
 exact ⟨h.1,h.2⟩
theorem PI.take_ (h:PI fam L nx us) (hnx:16≤nx) (held:Bool) {kd:Nat} (hk:kd<2) {k:Nat} (hkk:(lfL held kd L nx (lfI held kd L)).length=k+1) (t:Int) :
  ∃ fam',PI fam' (upd (lfL held kd L nx) (lfI held kd L) ((lfL held kd L nx (lfI held kd L)).take k)) (lfX held kd L nx) (tkU us ⟨(lfL held kd L nx (lfI held kd L)).getD k 0,t,lfI held kd L⟩)∧(∀ x,DomF fam nx x→fam' x=fam x∧DomF fam' (lfX held kd L nx) x) ∧
   fam' ((lfL held kd L nx (lfI held kd L)).getD k 0)=lfI held kd L∧DomF fam' (lfX held kd L nx) ((lfL held kd L nx (lfI held kd L)).getD k 0)∧(∀ j,j<us.length→(us.getD j u0).b≠(lfL held kd L nx (lfI held kd L)).getD k 0) ∧
   nx≤lfX held kd L nx∧(lfX held kd L nx=nx∨lfX held kd L nx=nx+1∧(lfL held kd L nx (lfI held kd L)).getD k 0=nx)∧∀ u,InU us u∨u=⟨(lfL held kd L nx (lfI held kd L)).getD k 0,t,lfI held kd L⟩→InU (tkU us ⟨(lfL held kd L nx (lfI held kd L)).getD k 0,t,lfI held kd L⟩) u:=by
 have hi:=lfI_lt (held:=held) (L:=L) hk
 have fin:∀ (b:Int) (i:Nat) (u:U3),InU us u∨u=⟨b,t,i⟩→InU (tkU us ⟨b,t,i⟩) u:=fun b i u hu=>by
  have hp:=upU_prm (us.length+1) (us ++ [(⟨b,t,i⟩:U3)]) us.length (by simp)
  refine (InU.prm hp (by rw [upU_len]) u).1 ?_
  rcases hu with ⟨j,hj,e⟩ | e
  ·exact ⟨j,by simp;omega,by rw [app_getD,if_pos hj];exact e⟩
  ·exact ⟨us.length,by simp,by rw [app_getD,if_neg (by omega),if_pos rfl];exact e.symm⟩
 have tk:∀ {fam:Int→Nat} {L:Nat→List Int} {nx:Int} {b:Int} {i:Nat},PI fam L nx (us ++ [⟨b,t,i⟩])→PI fam L nx (tkU us ⟨b,t,i⟩):=fun {fam} {L} {nx} {b} {i} h=>by
  have hp:=upU_prm (us.length+1) (us ++ [(⟨b,t,i⟩:U3)]) us.length (by simp)
  exact h.prm hp (by unfold tkU;rw [upU_len])
 by_cases c:lfN held kd (L 0).length (L 1).length (L (2+kd)).length=true
 ·have e1:lfL held kd L nx=upd L (2+kd) [nx]:=by unfold lfL;rw [if_pos c]
  have e2:lfX held kd L nx=nx+1:=by unfold lfX;rw [if_pos c]
  obtain ⟨e3,e4⟩:=lfN_I c
  obtain ⟨s1,s2⟩:=h.slot hnx hk e4
  rw [e1,e3] at hkk ⊢
  rw [e2]
  have e5:(upd L (2+kd) [nx] (2+kd)).getD k 0=nx:=by
   rw [upd_at] at hkk ⊢
   have:k=0:=by simpa using hkk.symm
   rw [this];rfl
  obtain ⟨t1,t2,t3,t4⟩:=s1.takeL (by omega) hkk t
  exact ⟨_,tk t1,s2,t2,t3,t4,by omega,.inr ⟨rfl,e5⟩,fin _ _⟩
 ·have e1:lfL held kd L nx=L:=by unfold lfL;rw [if_neg c]
  have e2:lfX held kd L nx=nx:=by unfold lfX;rw [if_neg c]
  rw [e1] at hkk ⊢
  rw [e2]
  obtain ⟨t1,t2,t3,t4⟩:=h.takeL hi hkk t
  exact ⟨fam,tk t1,fun x hx=>⟨rfl,hx⟩,t2,t3,t4,Int.le_refl _,.inl rfl,fin _ _⟩
end
def LstOk (kd:Nat→Nat) (s:Iv) (l:Nat):Prop:=(s.h=true→l≠0)∧(s.h=true→kd s.p.toNat=1→2≤l)∧(2≤l→l=2+kd s.p.toNat)
theorem lfT_lst (held:Bool) (kd n0 n1:Nat):(held=true→lfT held kd n0 n1≠0)∧(held=true→kd=1→2≤lfT held kd n0 n1)∧(2≤lfT held kd n0 n1→lfT held kd n0 n1=2+kd):=by
 unfold lfT
 by_cases c1:(held && kd == 1)=true
 ·rw [if_pos c1]
  exact ⟨fun _=>by omega,fun _ _=>by omega,fun _=>rfl⟩
 ·rw [if_neg c1]
  by_cases c2:(!held && decide (0<n0))=true
  ·rw [if_pos c2]
   have hf:held=false:=by cases held <;> simp at c2 ⊢
   exact ⟨fun h=>absurd (hf.symm.trans h) (by decide),fun h=>absurd (hf.symm.trans h) (by decide),fun h=>by omega⟩
  ·rw [if_neg c2]
   have hn:held=true→kd≠1:=fun h e=>c1 (by rw [h,e];rfl)
   by_cases c3:0<n1
   ·rw [if_pos c3]
    exact ⟨fun _=>by omega,fun h e=>absurd e (hn h),fun h=>by omega⟩
   ·rw [if_neg c3]
    exact ⟨fun _=>by omega,fun _ _=>by omega,fun _=>rfl⟩
theorem lfI_lst (kd:Nat→Nat) (s:Iv) (L:Nat→List Int):LstOk kd s (lfI s.h (kd s.p.toNat) L):=lfT_lst _ _ _ _
structure RI (kd:Nat→Nat) (S:Nat→Iv) (i:Nat) (st:ASt) (fam:Int→Nat):Prop where
 pi:PI fam st.L st.nx st.us
 nx:16≤st.nx∧st.nx≤16+i
 asg:∀ a,a<i→DomF fam st.nx (st.bd (S a).p.toNat)∧LstOk kd (S a) (fam (st.bd (S a).p.toNat))
 liv:∀ a,a<i→(∃ l,InU st.us ⟨st.bd (S a).p.toNat,(S a).t,l⟩)∨∃ c,c<i∧(S a).t<(S c).f
 ovl:∀ a b,a<b→b<i→st.bd (S a).p.toNat=st.bd (S b).p.toNat→(S a).t<(S b).f
 slot:∀ x:Int,16≤x→x<st.nx→∃ a,a<i∧st.bd (S a).p.toNat=x
 out:∀ q,(∀ a,a<i→(S a).p.toNat≠q)→st.bd q=-1
def fam0 (x:Int):Nat:=if x<6 then 0 else 1
theorem newL6 (l:Nat):newL 6 l=if l=0 then [5,4,3,2,1,0] else if l=1 then [11,10,9,8,7,6] else []:=by
 unfold newL
 split
 ·rfl
 ·split <;> rfl
theorem RI.start (kd:Nat→Nat) (S:Nat→Iv):RI kd S 0 as0 fam0:=by
 refine ⟨⟨fun l hl=>?_,fun l hl x hx=>?_,fun i hi=>?_,fun i hi=>?_,fun i j hi=>?_⟩,by simp [as0],fun a ha=>by omega,fun a ha=>by omega,fun a b _ hb=>by omega,fun x h1 h2=>?_,fun q _=>rfl⟩
 ·show (newL 6 l).Nodup
  rw [newL6]
  split
  ·decide
  ·split
   ·decide
   ·decide
 ·have hx':x ∈ newL 6 l:=hx
  rw [newL6] at hx'
  by_cases e0:l=0
  ·rw [if_pos e0] at hx'
   have:0≤x∧x<6:=by simp at hx';omega
   have e:fam0 x=0:=by unfold fam0;rw [if_pos (by omega)]
   exact ⟨by rw [e,e0],.inl ⟨e,this.1,this.2⟩⟩
  ·rw [if_neg e0] at hx'
   by_cases e1:l=1
   ·rw [if_pos e1] at hx'
    have:6≤x∧x<12:=by simp at hx';omega
    have e:fam0 x=1:=by unfold fam0;rw [if_neg (by omega)]
    exact ⟨by rw [e,e1],.inr (.inl ⟨e,this.1,this.2⟩)⟩
   ·rw [if_neg e1] at hx';cases hx'
 ·simp [as0] at hi
 ·simp [as0] at hi
 ·simp [as0] at hi
 ·simp [as0] at h2;omega
theorem RI.step {kd:Nat→Nat} {S:Nat→Iv} {i:Nat} {st:ASt} {fam:Int→Nat} (h:RI kd S i st fam) (hk:kd (S i).p.toNat<2) (hd:∀ a,a<i→(S a).p.toNat≠(S i).p.toNat) (hs:∀ a,a<i→(S a).f≤(S i).f) :
  ∃ fam',RI kd S (i+1) (asStep kd st (S i)) fam':=by
 obtain ⟨p1,p2⟩:=endB_pi (nx:=st.nx) (fam:=fam) (S i).f st.us.length st.L st.us rfl h.pi
 have hE:asE st (S i)=endB (S i).f st.us.length st.L st.us:=rfl
 rw [← hE] at p1 p2
 have hkk:(asL kd st (S i) (asI kd st (S i))).length=asN kd st (S i)+1:=by
  have:0<(asL kd st (S i) (asI kd st (S i))).length:=lfL_ne
  unfold asN
  omega
 obtain ⟨fam',q1,q2,q3,q4,q5,q6,q7,q8⟩:=p1.take_ h.nx.1 (S i).h hk (k:=asN kd st (S i)) hkk (S i).t
 have hb:∀ a,a<i→(asStep kd st (S i)).bd (S a).p.toNat=st.bd (S a).p.toNat:=fun a ha=>upd_ne (hd a ha)
 have hbi:(asStep kd st (S i)).bd (S i).p.toNat=asB kd st (S i):=upd_at _ _ _
 have hnx:(asStep kd st (S i)).nx=lfX (S i).h (kd (S i).p.toNat) (asE st (S i)).1 st.nx:=rfl
 have q7':lfX (S i).h (kd (S i).p.toNat) (asE st (S i)).1 st.nx=st.nx∨lfX (S i).h (kd (S i).p.toNat) (asE st (S i)).1 st.nx=st.nx+1∧asB kd st (S i)=st.nx:=q7
 refine ⟨fam',q1,?_,fun a ha=>?_,fun a ha=>?_,fun a b hab hbi' e=>?_,fun x h1 h2=>?_,fun q hq=>?_⟩
 ·have:=h.nx
  rw [hnx]
  rcases q7' with e | ⟨e,_⟩ <;> rw [e] <;> omega
 ·by_cases e:a<i
  ·rw [hb a e]
   obtain ⟨a1,a2⟩:=h.asg a e
   obtain ⟨c1,c2⟩:=q2 _ a1
   rw [c1]
   exact ⟨c2,a2⟩
  ·obtain rfl:a=i:=by omega
   rw [hbi]
   refine ⟨q4,?_⟩
   have:fam' (asB kd st (S a))=lfI (S a).h (kd (S a).p.toNat) (asE st (S a)).1:=q3
   rw [this]
   exact lfI_lst kd (S a) _
 ·by_cases e:a<i
  ·rw [hb a e]
   rcases h.liv a e with ⟨l,hl⟩ | ⟨c,hc,hc2⟩
   ·rcases p2 _ hl with h3 | h3
    ·exact .inl ⟨l,q8 _ (.inl h3)⟩
    ·exact .inr ⟨i,by omega,h3⟩
   ·exact .inr ⟨c,by omega,hc2⟩
  ·obtain rfl:a=i:=by omega
   rw [hbi]
   exact .inl ⟨_,q8 _ (.inr rfl)⟩
 ·by_cases e2:b<i
  ·rw [hb a (by omega),hb b e2] at e
   exact h.ovl a b hab e2 e
  ·obtain rfl:b=i:=by omega
   rw [hb a hab,hbi] at e
   rcases h.liv a hab with ⟨l,hl⟩ | ⟨c,hc,hc2⟩
   ·rcases p2 _ hl with ⟨j,hj,hj2⟩ | h3
    ·exact absurd (by rw [hj2];exact e) (q5 j hj)
    ·exact h3
   ·have:=hs c hc
    omega
 ·rw [hnx] at h2
  by_cases e:x<st.nx
  ·obtain ⟨a,ha,hx⟩:=h.slot x h1 e
   exact ⟨a,by omega,by rw [hb a ha];exact hx⟩
  ·rcases q7' with e2 | ⟨e2,e3⟩
   ·omega
   ·exact ⟨i,by omega,by rw [hbi,e3];omega⟩
 ·have h1:(asStep kd st (S i)).bd q=st.bd q:=upd_ne (fun e=>hq i (by omega) e.symm)
  rw [h1]
  exact h.out q (fun a ha=>hq a (by omega))
theorem RI.all {kd:Nat→Nat} {S:Nat→Iv} {n:Nat} (hk:∀ a,a<n→kd (S a).p.toNat<2) (hd:∀ a b,a<b→b<n→(S a).p.toNat≠(S b).p.toNat) (hs:∀ a b,a<b→b<n→(S a).f≤(S b).f) :
  ∀ i,i≤n→∃ fam,RI kd S i (asRun kd S i) fam
 | 0,_=>⟨_,RI.start kd S⟩
 | i+1,hi=>by
  obtain ⟨fam,h⟩:=RI.all hk hd hs i (by omega)
  exact h.step (hk i (by omega)) (fun a ha=>hd a i ha (by omega)) (fun a ha=>hs a i ha (by omega))
def tU (us:List U3) (i:Nat):Int:=(us.getD i u0).t
theorem tU_sw {us:List U3} {i j:Nat} (hi:i<us.length) (hj:j<us.length) (k:Nat):tU (swU us i j) k=if k=j then tU us i else if k=i then tU us j else tU us k:=by
 unfold tU
 rw [swU_at hi hj]
 split
 ·rfl
 ·split <;> rfl
def HpO (us:List U3) (n:Nat):Prop:=∀ i,0<i→i<n→tU us ((i-1) / 2)≤tU us i
theorem HpO.root {us:List U3} {n:Nat} (h:HpO us n):∀ i,i<n→tU us 0≤tU us i:=fun i=>by
 induction i using Nat.strongRecOn with
 | _ i ih =>
  intro hi
  rcases Nat.eq_zero_or_pos i with h0 | h0
  ·rw [h0];exact Int.le_refl _
  ·exact Int.le_trans (ih ((i-1) / 2) (by omega) (by omega)) (h i h0 hi)
theorem up_heap:∀ (f:Nat) (us:List U3) (j:Nat),j<f→j<us.length→(∀ i,0<i→i<us.length→i≠j→tU us ((i-1) / 2)≤tU us i) →
  (0<j→∀ c,0<c→c<us.length→(c-1) / 2=j→tU us ((j-1) / 2)≤tU us c)→HpO (upU f us j) us.length
 | 0,_,_,h,_,_,_=>absurd h (by omega)
 | f+1,us,j,hf,hj,h1,h2=>by
  unfold upU
  by_cases c:j=0∨¬ (us.getD j u0).t<(us.getD ((j-1) / 2) u0).t
  ·rw [if_pos c]
   intro i h0 hi
   by_cases e:i=j
   ·subst e
    rcases c with c | c
    ·omega
    ·unfold tU;omega
   ·exact h1 i h0 hi e
  ·rw [if_neg c]
   have hj0:0<j:=by omega
   have hlt:tU us j<tU us ((j-1) / 2):=by
    unfold tU
    have:¬ ¬ (us.getD j u0).t<(us.getD ((j-1) / 2) u0).t:=fun h=>c (.inr h)
    exact Classical.not_not.1 this
   obtain ⟨p,hp⟩:∃ p,p=(j-1) / 2:=⟨_,rfl⟩
   rw [← hp] at hlt ⊢
   have hpj:p<j:=by omega
   have hs:∀ k,tU (swU us p j) k=if k=j then tU us p else if k=p then tU us j else tU us k:=fun k=>tU_sw (by omega) hj k
   have hlen:(swU us p j).length=us.length:=swU_len _ _ _
   have h3:=up_heap f (swU us p j) p (by omega) (by omega) (fun i h0 hi he=>?_) (fun hp0 c hc0 hc he=>?_)
   ·rw [hlen] at h3;exact h3
   ·rw [hlen] at hi
    rw [hs,hs i]
    by_cases e1:i=j
    ·subst e1
     rw [if_neg (by omega),if_pos hp.symm,if_pos rfl]
     omega
    ·rw [if_neg e1,if_neg he]
     by_cases e2:(i-1) / 2=j
     ·rw [if_pos e2]
      have:=h2 hj0 i h0 hi e2
      rw [← hp] at this
      exact this
     ·rw [if_neg e2]
      have h4:=h1 i h0 hi e1
      by_cases e3:(i-1) / 2=p
      ·rw [if_pos e3];rw [e3] at h4;omega
      ·rw [if_neg e3];exact h4
   ·rw [hlen] at hc
    rw [hs,hs c]
    have hpp:(p-1) / 2<p:=by omega
    rw [if_neg (by omega),if_neg (by omega)]
    have h4:=h1 p hp0 (by omega) (by omega)
    by_cases e1:c=j
    ·rw [if_pos e1];exact h4
    ·rw [if_neg e1,if_neg (by omega)]
     have h5:=h1 c hc0 hc e1
     rw [he] at h5
     omega
theorem down_heap:∀ (f:Nat) (us:List U3) (i n:Nat),n≤i+f→n≤us.length→(∀ c,0<c→c<n→(c-1) / 2≠i→tU us ((c-1) / 2)≤tU us c) →
  (0<i→∀ c,0<c→c<n→(c-1) / 2=i→tU us ((i-1) / 2)≤tU us c)→HpO (downU f us i n) n
 | 0,us,i,n,hf,hn,h1,h2=>fun c h0 hc=>h1 c h0 hc (by omega)
 | f+1,us,i,n,hf,hn,h1,h2=>by
  unfold downU
  by_cases c1:n≤2*i+1
  ·rw [if_pos c1]
   exact fun c h0 hc=>h1 c h0 hc (by omega)
  ·rw [if_neg c1]
   obtain ⟨g1,g2⟩:=chD_le us c1
   have hch:∀ c,0<c→c<n→(c-1) / 2=i→tU us (chD us i n)≤tU us c:=fun c h0 hc he=>by
    unfold chD tU
    have:c=2*i+1∨c=2*i+2:=by omega
    rcases this with rfl | rfl
    ·split
     ·omega
     ·exact Int.le_refl _
    ·split
     ·exact Int.le_refl _
     ·rename_i h;omega
   have hpar:(chD us i n-1) / 2=i:=by unfold chD;split <;> omega
   obtain ⟨j,hj⟩:∃ j,j=chD us i n:=⟨_,rfl⟩
   rw [← hj] at g1 g2 hch hpar ⊢
   by_cases c2:¬ (us.getD j u0).t<(us.getD i u0).t
   ·rw [if_pos c2]
    intro c h0 hc
    by_cases e:(c-1) / 2=i
    ·have:=hch c h0 hc e
     rw [e]
     unfold tU at this ⊢
     omega
    ·exact h1 c h0 hc e
   ·rw [if_neg c2]
    have hlt:tU us j<tU us i:=Classical.not_not.1 c2
    have hs:∀ k,tU (swU us i j) k=if k=j then tU us i else if k=i then tU us j else tU us k:=fun k=>tU_sw (by omega) (by omega) k
    refine down_heap f (swU us i j) j n (by omega) (by rw [swU_len];exact hn) (fun c h0 hc he=>?_) (fun hj0 c h0 hc he=>?_)
    ·rw [hs,hs c,if_neg he]
     by_cases e1:(c-1) / 2=i
     ·rw [if_pos e1]
      by_cases e2:c=j
      ·rw [if_pos e2];omega
      ·rw [if_neg e2,if_neg (by omega)];exact hch c h0 hc e1
     ·rw [if_neg e1]
      have h3:=h1 c h0 hc e1
      by_cases e2:c=j
      ·exact absurd (by rw [e2];exact hpar) e1
      ·rw [if_neg e2]
       by_cases e3:c=i
       ·rw [if_pos e3]
        subst e3
        exact h2 h0 j (by omega) g2 hpar
       ·rw [if_neg e3];exact h3
    ·rw [hpar,hs,hs c,if_neg (by omega),if_pos rfl,if_neg (by omega),if_neg (by omega)]
     have h3:=h1 c h0 hc (by omega)
     rw [he] at h3
     exact h3
theorem HpO.take_ {us:List U3} {f:Nat} (h:HpO us f):HpO (us.take f) f:=fun i h0 hi=>by
 have h1:=h i h0 hi
 unfold tU at h1 ⊢
 rw [take_getD us (by omega),take_getD us hi]
 exact h1
theorem pop_heap {us:List U3} {f:Nat} (hf:us.length=f+1) (h:HpO us (f+1)):HpO ((popU us).take f) f:=by
 refine HpO.take_ ?_
 unfold popU
 rw [hf,show f+1-1=f from rfl]
 have hs:∀ k,tU (swU us 0 f) k=if k=f then tU us 0 else if k=0 then tU us f else tU us k:=fun k=>tU_sw (by omega) (by omega) k
 refine down_heap (f+1) (swU us 0 f) 0 f (by omega) (by rw [swU_len];omega) (fun c h0 hc he=>?_) (fun h0=>by omega)
 rw [hs,hs c,if_neg (by omega),if_neg he,if_neg (by omega),if_neg (by omega)]
 exact h c h0 (by omega)
theorem tk_heap {us:List U3} (u:U3) (h:HpO us us.length):HpO (tkU us u) (us.length+1):=by
 unfold tkU
 have hl:(us ++ [u]).length=us.length+1:=by simp
 have ht:∀ k,k<us.length→tU (us ++ [u]) k=tU us k:=fun k hk=>by unfold tU;rw [app_getD,if_pos hk]
 have h1:=up_heap (us.length+1) (us ++ [u]) us.length (by omega) (by omega) (fun i h0 hi he=>?_) (fun h0 c hc0 hc he=>by omega)
 ·rw [hl] at h1;exact h1
 ·rw [hl] at hi
  rw [ht _ (by omega),ht _ (by omega)]
  exact h i h0 (by omega)
theorem endB_heap (p:Int):∀ (f:Nat) (L:Nat→List Int) (us:List U3),us.length=f→HpO us f→HpO (endB p f L us).2 (endB p f L us).2.length∧∀ i,i<(endB p f L us).2.length→p≤tU (endB p f L us).2 i
 | 0,L,us,hf,h=>⟨by show HpO us us.length;rw [hf];exact h,fun i hi=>by have hi':i<us.length:=hi;omega⟩
 | f+1,L,us,hf,h=>by
  unfold endB
  by_cases c:(us.getD 0 u0).t<p
  ·rw [if_pos c]
   have hl:(popU us).length=us.length:=popU_len us
   exact endB_heap p f _ _ (by rw [List.length_take];omega) (pop_heap hf h)
  ·rw [if_neg c]
   refine ⟨by show HpO us us.length;rw [hf];exact h,fun i hi=>?_⟩
   have hi':i<us.length:=hi
   have:=h.root i (by omega)
   unfold tU at this ⊢
   show p≤(us.getD i u0).t
   omega
theorem KpB.bel {w w1 w2:World} {b:Nat} (h:KpB w w1 b) (k:Below w.heap.size w1 w2):KpB w w2 b :=
 ⟨k.os.trans h.os,k.tape.trans h.tape,k.output.trans h.output,Nat.le_trans h.size k.size,fun i hi hne=>(k.block i hi).trans (h.block i hi hne)⟩
def kdL (ks:List Int) (p:Nat):Nat:=(ks.getD p 0).toNat
structure AsI (w:World) (R c m n g rb:Nat) (ks:List Int) (S:Nat→Iv) (i:Nat) (wr:World):Prop where
 room:∃ V uv,RmI (fun _=>none) rb V (asRun (kdL ks) S i).L (asRun (kdL ks) S i).nx uv (asRun (kdL ks) S i).us wr
 bd:Blk wr g 3 (rowA m fun q=>.int .i64 ((asRun (kdL ks) S i).bd q))
 row:Blk wr R 110 (ivA c S)
 kp:KpB w wr R
 ok:AsOk i (asRun (kdL ks) S i)
 lt:R<w.heap.size∧w.heap.size≤g∧g<rb

theorem RmI.lowSet {rb:Nat} {V:Nat→Value} {L:Nat→List Int} {nx:Int} {uv:Value} {us:List U3} {w:World} (h:RmI (fun _=>none) rb V L nx uv us w) {g:Nat} (hg:g<rb) (i:Nat) (u:Value):RmI (fun _=>none) rb V L nx uv us (w.setCell ⟨g,i,none⟩ u):=by
 have hf:∀ k,k≠g→(w.setCell ⟨g,i,none⟩ u).heap[k]?=w.heap[k]?:=fun k hk=>Below.heap_setCell w ⟨g,i,none⟩ u k hk
 refine ⟨h.box.far (p:=⟨g,i,none⟩) (by simp;omega) u,fun l hl=>own_kept (h.own l hl) fun k hk=>hf k ?_,h.sep,own_kept h.uses fun k hk=>hf k ?_,fun _ _ hk=>by cases hk⟩
 ·have:=(own_block_le (h.own l hl) hk).1;omega
 ·have:=(own_block_le h.uses hk).1;omega
theorem assign_any (R n c m:Nat) (kc:Nat) (ko:Option Addr) (G:Nat→Iv) (ks:List Int) (w:World) (h:Blk w R 110 (ivA c G)) (hB:BdF n G) (hn:n≤c) (hc:c≤5000) (hn1:n≤1024) (hm:m≤1024)
  (hk:Reads w w.heap.size 1 ko m (u8c ks)) (hkb:∀ (b off:Nat),ko=some ⟨b,off,none⟩→0<m→b≠R) (hk2:∀ x ∈ ks,0≤x∧x<2) (hP:∀ j,j<n→∃ q:Nat,(G j).p=q∧q<m) :
  Calls Tryd.prog 32 #[.slice (some ⟨R,0,none⟩) n c,.slice ko m kc] w fun e w'=>∃ g,e=.returned (.slice (some ⟨g,0,none⟩) m m)∧w.heap.size≤g∧Blk w' g 3 (rowA m fun q=>.int .i64 ((asRun (kdL ks) (stb kyF n G) n).bd q))∧KpB w w' R:=by
 have HSO:=Lib.hid (sortS_any R n c G w h hB hn hc)
 have hrl:=h.lt
 have HPR:=Lib.hid (stb_ok kyF n G).2
 obtain ⟨S,hS⟩:∃ S,S=stb kyF n G:=⟨_,rfl⟩
 rw [← hS] at HSO HPR ⊢
 have HP:Hid (∀ j,j<n→∃ q:Nat,(S j).p=q∧q<m):=Lib.hid fun j hj=>by
  obtain ⟨π,ρ,hπ⟩:=HPR.out
  have h5:=hπ j hj
  rw [h5.2.2.2.2]
  exact hP _ h5.1
 have HK:=Lib.hid hk
 have HKB:=Lib.hid hkb
 have HK2:=Lib.hid hk2
 clear h hB hk hkb hk2 hS hP HPR
 go_enter Tryd.func32,Tryd.ntmps32
 go_upto_region 2 with (go_at_call 51;refine HSO.out.mono ?_;rintro e w1 ⟨rfl,hs1⟩;have HS1:=Lib.hid hs1;clear hs1)
 clear HSO
 have HRP:=Lib.hid (repeat_any w1.heap.size m (w1.alloc (.cells #[.int .i64 (-1)] 3)) (Blk.new w1 _ _) hm)
 have hz1:(w1.alloc (.cells #[.int .i64 (-1)] 3)).heap.size=w1.heap.size+1:=by simp
 rw [hz1] at HRP
 have HZ1:=Lib.hid hz1
 clear hz1
 go_upto_region 4 with (first
  | (go_at_call 53;refine HRP.out.mono ?_;rintro e w2 ⟨rfl,hb2,hl2⟩;have HB2:=Lib.hid hb2;have HL2:=Lib.hid hl2;have HNR:=Lib.hid (newRoom_any (ks:=fun _=>none) w2 (fun g o hk=>by cases hk));clear hb2 hl2)
  | (go_at_call 54;refine HNR.out.mono ?_;rintro e w3 ⟨rfl,⟨V3,hr3⟩,hl3⟩;have HR3:=Lib.hid hr3;have HL3:=Lib.hid hl3;clear hr3 hl3))
 obtain ⟨g,hg⟩:∃ g,g=w1.heap.size+1:=⟨_,rfl⟩
 obtain ⟨rb,hrb⟩:∃ g,g=w2.heap.size:=⟨_,rfl⟩
 rw [← hg] at HB2 ⊢
 rw [← hrb] at HR3 HL3 ⊢
 have HG:=Lib.hid hg
 have HRB:=Lib.hid hrb
 have H0:Hid (AsI w R c m n g rb ks S 0 w3):=Lib.hid (by
  have q1:=HS1.out.kp.size
  have q2:=HB2.out.lt
  have q3:=HL2.out.size
  have hl12:Below w1.heap.size w1 w2:=((Below.refl _ _).alloc (Nat.le_refl _) _).trans (HL2.out.mono (by omega))
  have hl13:Below w1.heap.size w1 w3:=hl12.trans (HL3.out.mono (by rw [hrb];exact hl12.size))
  refine ⟨⟨_,_,HR3.out⟩,HB2.out.below HL3.out (by rw [hrb];exact q2),HS1.out.row.below hl13 HS1.out.row.lt,HS1.out.kp.bel (hl13.mono q1),as0_ok,hrl,by omega,by omega⟩)
 clear hg hrb HB2 HL2 HR3 HL3 HRP HNR HS1 HZ1
 go_wp2
 go_loopw [18] (fun s wr=>∃ i:Nat,s=.int .i64 i∧i≤n∧Hid (AsI w R c m n g rb ks S i wr)) (fun s _=>n-(intOf s).toNat)
 case atStart=>exact ⟨0,rfl,by omega,H0⟩
 case round =>
  clear H0
  obtain ⟨i,rfl,hi,HX⟩:=hrel
  by_cases hlt:i<n
  ·obtain ⟨q,hq,hqm⟩:=HP.out i hlt
   obtain ⟨V,uv,hrm⟩:=HX.out.room
   obtain ⟨st,hst⟩:∃ st,st=asRun (kdL ks) S i:=⟨_,rfl⟩
   obtain ⟨s,hs⟩:∃ s,s=S i:=⟨_,rfl⟩
   have hnx:asRun (kdL ks) S (i+1)=asStep (kdL ks) st s:=by rw [hst,hs];rfl
   have hok:=HX.out.ok
   have hbd:=HX.out.bd
   rw [← hst] at hrm hok hbd
   have hrl':=HX.out.row
   have x0:wr.cell? ⟨R,i*4,none⟩=some (.int .i64 s.p):=by rw [hs,hrl'.cell];exact ivA_at (j:=0) _ (by omega) (by decide)
   have x1:wr.cell? ⟨R,i*4+1,none⟩=some (.int .i64 s.f):=by rw [hs,hrl'.cell,ivA_at _ (by omega) (by decide)];rfl
   have x2:wr.cell? ⟨R,i*4+2,none⟩=some (.int .i64 s.t):=by rw [hs,hrl'.cell,ivA_at _ (by omega) (by decide)];rfl
   have x3:wr.cell? ⟨R,i*4+3,none⟩=some (.bool s.h):=by rw [hs,hrl'.cell,ivA_at _ (by omega) (by decide)];rfl
   rw [← hs] at hq
   have HEQ:Hid (s.p=(q:Int)):=Lib.hid hq
   have HST:=Lib.hid hnx
   have hgd:=hrm.guard (.cells #[.int .i64 q,.int .i64 s.f,.int .i64 s.t,.bool s.h] 110)
   have HEB:=Lib.hid (endB_any s.f (16+i) hgd hok.uok hok.len (by omega))
   have HOK:=Lib.hid hok
   have HBD:=Lib.hid hbd
   have hwrs:rb<wr.heap.size:=hrm.box.lt
   rw [hq] at x0
   obtain ⟨sf,hsf⟩:∃ x,x=s.f:=⟨_,rfl⟩
   obtain ⟨sh,hsh⟩:∃ x,x=s.h:=⟨_,rfl⟩
   obtain ⟨se,hse⟩:∃ x,x=s.t:=⟨_,rfl⟩
   rw [← hsf] at x1 HEB
   rw [← hse] at x2 HEB
   rw [← hsh] at x3 HEB
   have HEE:Hid (asE st s=endB sf st.us.length st.L st.us):=Lib.hid (by rw [hsf];rfl)
   have HSX:=Lib.hid (And.intro hsf (And.intro hsh hse))
   clear hq hnx hok hbd hrl' hgd hrm hs hst hsf hsh hse
   obtain ⟨kb,ko2,rfl,hkb,hkc⟩:=HK.out.lit (by omega) (by omega)
   have hql:q<ks.length:=by have:=HK.out.1;rw [length_u8c] at this;omega
   have hkv:ks[q]?=some ((kdL ks q:Nat):Int):=by
    rw [List.getElem?_eq_getElem hql]
    have h1:=HK2.out ks[q] (List.getElem_mem hql)
    unfold kdL
    rw [List.getD_eq_getElem?_getD,List.getElem?_eq_getElem hql,Option.getD_some]
    congr 1
    omega
   have hk2':kdL ks q<2:=by
    have h1:=HK2.out ks[q] (List.getElem_mem hql)
    unfold kdL
    rw [List.getD_eq_getElem?_getD,List.getElem?_eq_getElem hql,Option.getD_some]
    omega
   have HKW:Hid (∀ W,Below rb wr W→W.cell? ⟨kb,ko2+q,none⟩=some (.int .u8 ((kdL ks q:Nat):Int))):=Lib.hid fun W hW=>by
    have h1:=hkc _ _ (u8c_at hkv)
    have hne:=HKB.out kb ko2 rfl (by omega)
    have hlt3:=HX.out.lt
    rw [hW.cell (show kb<rb by omega),World.cell?_of_block (HX.out.kp.block kb hkb (by simpa using hne))]
    exact h1
   have HK3:=Lib.hid hk2'
   clear hkc hkv hql hk2'
   obtain ⟨kv,hkv⟩:∃ kv:Int,kv=((kdL ks q:Nat):Int):=⟨_,rfl⟩
   rw [← hkv] at HKW
   have HKV:=Lib.hid hkv
   clear hkv
   go_upto_region 8 with (go_at_call 55;refine HEB.out.mono ?_;rintro e w5 ⟨rfl,⟨V5,uv5,hr5⟩,hb5,hu5,hl5⟩;have HR5:=Lib.hid hr5;have HB5:=Lib.hid (((Below.refl rb wr).alloc (Nat.le_of_lt hwrs) _).trans hb5);have HU5:=Lib.hid hu5;have HL5:=Lib.hid hl5;have y1:w5.cell? ⟨wr.heap.size,1,none⟩=some (.int .i64 sf):=hr5.guarded.cell 1;clear hr5 hb5 hu5 hl5)
   have y0:w5.cell? ⟨wr.heap.size,0,none⟩=some (.int .i64 q):=HR5.out.guarded.cell 0
   have y2:w5.cell? ⟨wr.heap.size,2,none⟩=some (.int .i64 se):=HR5.out.guarded.cell 2
   have y3:w5.cell? ⟨wr.heap.size,3,none⟩=some (.bool sh):=HR5.out.guarded.cell 3
   have yk:=HKW.out _ HB5.out
   have HN5:Hid (AsOk (i+1) (asStep (kdL ks) st s)):=Lib.hid (by
    have e1:s.p.toNat=q:=by rw [HEQ.out];simp
    refine as_step HOK.out (by rw [e1];exact HK3.out) (by rw [HEE.out];exact HU5.out) (fun l hl=>by rw [HEE.out];exact HL5.out l hl))
   have HTK:Hid (Calls Tryd.prog 56 #[.pointer (some ⟨rb,0,none⟩),.agg #[.int .i64 q,.int .i64 sf,.int .i64 se,.bool sh],.int .u8 kv] w5.drew fun e w'=>e=.returned (.int .i64 (asB (kdL ks) st s)) ∧
     (∃ V' uv',RmI (addK (fun _=>none) wr.heap.size (.cells #[.int .i64 q,.int .i64 sf,.int .i64 se,.bool sh] 110)) rb V' (asStep (kdL ks) st s).L (asStep (kdL ks) st s).nx uv' (asStep (kdL ks) st s).us w')∧Below rb w5.drew w'):=Lib.hid (by
    have hq2:=HK3.out
    have hr:=HR5.out.drewN1
    have hl:=HL5.out
    have hkv:=HKV.out
    have e0:=HEE.out
    rw [← e0] at hr hl
    have e1:s.p.toNat=q:=by rw [HEQ.out];simp
    have e2:=HSX.out.1
    have e3:=HSX.out.2.1
    have e4:=HSX.out.2.2
    clear HEB HR5 HL5 HU5 HEQ HSX HEE e0 x0 x1 x2 x3 y0 y1 y2 y3 yk HKW HKV HK3
    subst e2 e3 e4 e1
    rw [hkv]
    have hnx:=HOK.out.nx
    have h5:∀ l,l<4→(asL (kdL ks) st s l).length≤5000:=fun l hl4=>by
     have h1:=hl l hl4
     have h2:(asL (kdL ks) st s l).length≤((asE st s).1 l).length+1:=lfL_len l
     omega
    have hpos:0<(asL (kdL ks) st s (asI (kdL ks) st s)).length:=lfL_ne
    exact take_any s.h hq2 _ _ _ hr (by omega) (by have:=hl 0 (by omega);omega) h5 (k:=asN (kdL ks) st s) (show (asL (kdL ks) st s (asI (kdL ks) st s)).length=asN (kdL ks) st s+1 from by unfold asN;omega))
   obtain ⟨bv,hbv⟩:∃ b,b=asB (kdL ks) st s:=⟨_,rfl⟩
   rw [← hbv] at HTK
   have HFI:Hid (∀ w6,(∃ V' uv',RmI (addK (fun _=>none) wr.heap.size (.cells #[.int .i64 q,.int .i64 sf,.int .i64 se,.bool sh] 110)) rb V' (asStep (kdL ks) st s).L (asStep (kdL ks) st s).nx uv' (asStep (kdL ks) st s).us w6)→Below rb w5.drew w6 →
     w6.cell? ⟨wr.heap.size,0,none⟩=some (.int .i64 q)∧w6.frozen? ⟨g,q,none⟩=false∧(∃ y,w6.cell? ⟨g,q,none⟩=some y)∧AsI w R c m n g rb ks S (i+1) (w6.setCell ⟨g,q,none⟩ (.int .i64 bv))):=Lib.hid fun w6 ⟨V6,uv6,h6⟩ hb6=>by
    have hlt3:=HX.out.lt
    have hbw:Below rb wr w6:=HB5.out.drew.trans hb6
    have hbk:=HBD.out.below hbw hlt3.2.2
    have e1:s.p.toNat=q:=by rw [HEQ.out];simp
    refine ⟨h6.guarded.cell 0,hbk.frozen q,⟨_,by rw [hbk.cell];exact rowA_at _ hqm⟩,?_,?_,?_,?_,?_,hlt3⟩
    ·rw [HST.out]
     exact ⟨V6,uv6,(h6.sub (fun _ _ hk=>by cases hk)).lowSet hlt3.2.2 q _⟩
    ·have h7:=hbk.set_ q (.int .i64 bv)
     rw [rowA_set] at h7
     rw [HST.out]
     have e2:(upd (fun q=>Value.int .i64 (st.bd q)) q (Value.int .i64 bv))=fun p=>Value.int .i64 ((asStep (kdL ks) st s).bd p):=by
      funext p
      show upd _ q _ p=Value.int .i64 (upd st.bd s.p.toNat (asB (kdL ks) st s) p)
      rw [e1,← hbv]
      unfold upd
      split <;> rfl
     rw [← e2]
     exact h7
    ·exact (HX.out.row.below hbw (by omega)).far (p:=⟨g,q,none⟩) (by simp;omega) _
    ·exact HX.out.kp.bel ((hbw.mono (by omega)).setCell (p:=⟨g,q,none⟩) hlt3.2.1 _)
    ·rw [HST.out];exact HN5.out
   clear hbv HX HEB HR5 HU5 HL5 HKW HN5 HOK HBD HB5 HSX HEQ HEE HST x0 x1 x2 x3
   go_region_law (first
    | (go_simp;go_at_call 56;refine HTK.out.mono ?_;rintro e w6 ⟨rfl,hr6,hb6⟩;obtain ⟨z0,z1,⟨zy,z2⟩,z3⟩:=HFI.out _ hr6 hb6;have H6:=Lib.hid z3;clear hr6 hb6 z3))
   all_goals
    go_wp2
    go_roundw
    case rel=>exact ⟨i+1,by go_num,by omega,H6⟩
    case measure=>simp [intOf];omega
  ·obtain rfl:n=i:=by omega
   have hbd:=Lib.hid HX.out.bd
   have hkp:=Lib.hid HX.out.kp
   have hle:=HX.out.lt.2.1
   clear HX
   go_wp2
   first | go_end0 | go_ret
   exact ⟨g,rfl,hle,hbd.out,hkp.out⟩
end Go.Proofs.YtepkogfiojkcpaaDoor
