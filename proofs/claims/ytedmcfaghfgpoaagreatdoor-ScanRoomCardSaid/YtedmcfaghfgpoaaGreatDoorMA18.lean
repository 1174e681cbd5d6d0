/-
  Texts of one seat, one behind the other: JMul, JRp, JAs, JAsW.
-/
import Derived.Laws.BitsAllLaws
import Derived.Laws.CopyOwn
import Derived.Deep.DeepCutAuto
import Derived.Test.YtedmcfaghfgpoaaGreatDoorMA17
import Derived.Test.YtedmcfaghfgpoaaGreatDoorMA16

set_option linter.unusedVariables false
set_option linter.unusedSimpArgs false
set_option maxRecDepth 100000
set_option maxHeartbeats 51200000
namespace Go.Proofs.YtedmcfaghfgpoaaGreatDoor
open Go.ChangeShapes Go.WideShapes Go.ChangeAt Go.RowKit
theorem and_low (n:Nat) (hn:n<4294967296):bits .and .u64 (n:Int) 4294967295=n:=by
 rw [show (4294967295:Int)=((4294967295:Nat):Int) from rfl,u64_and_nat n 4294967295 (by omega) (by omega),show (4294967295:Nat)=2 ^ 32-1 from rfl,Nat.and_two_pow_sub_one_eq_mod,Nat.mod_eq_of_lt (by omega)]
theorem mul64_one (n:Nat) (hn:n≤4000) (w:World):Calls Tryz.prog 77 #[.int .u64 1,.int .u64 n] w fun e w'=>e=.returned (.tuple #[.int .u64 0,.int .u64 n])∧w'=w:=by
 have h1:bits .and .u64 1 4294967295=1:=and_low 1 (by decide)
 have h2:bits .and .u64 (n:Int) 4294967295=n:=and_low n (by omega)
 have h0:bits .and .u64 0 4294967295=0:=and_low 0 (by decide)
 have h3:(n:Int) / 4294967296=0:=by omega
 have h4:IntKind.u64.wrap (n:Int)=n:=by rw [IntKind.wrap_u64];omega
 have h5:IntKind.u64.wrap 0=0:=by decide
 go_enter Tryz.func77,Tryz.ntmps77
 go_wp2
 first | go_ret2 | go_end0
 exact ⟨rfl,rfl⟩
theorem mul_one' (n:Nat) (hn:n≤4000) (w:World):Calls Tryz.prog 52 #[.int .u64 1,.int .u64 n] w fun e w'=>e=.returned (.tuple #[.int .u64 0,.int .u64 n])∧w'=w:=by
 have HM:=lh (mul64_one n hn w)
 have h4:IntKind.u64.wrap (n:Int)=n:=by rw [IntKind.wrap_u64];omega
 go_enter Tryz.func52,Tryz.ntmps52
 go_wp2_with (go_at_call 77;refine HM.out.mono ?_;rintro e w2 ⟨rfl,rfl⟩)
 go_ret2
 exact ⟨rfl,rfl⟩
def rpL (v z:Value) (k m:Nat):List Value:=List.replicate k v ++ List.replicate (m-k) z
theorem rpL_len (v z:Value) {k m:Nat} (hk:k≤m):(rpL v z k m).length=m:=by simp [rpL];omega
theorem rpL_splice (v z:Value) {k c m:Nat} (h:k+c≤m):splice (rpL v z k m) k (List.replicate c v)=rpL v z (k+c) m:=by
 unfold splice rpL
 rw [List.take_left' (by simp),List.length_replicate,List.drop_append,List.length_replicate,List.drop_of_length_le (by simp),List.nil_append,List.drop_replicate,← List.append_assoc,List.replicate_append_replicate]
 congr 2
 omega
theorem rpL_at (v z:Value) {k j m:Nat} (h:j<k):(rpL v z k m)[j]?=some v:=by
 unfold rpL
 rw [List.getElem?_append_left (by simpa using h),List.getElem?_replicate,if_pos h]
theorem rpL_full (v z:Value) (m:Nat):(rpL v z m m).toArray=rowA m fun _=>v:=by
 unfold rpL rowA
 congr 1
 apply List.ext_getElem?
 intro i
 simp [List.getElem?_replicate,List.getElem?_map]
 by_cases h:i<m
 ·rw [if_pos h,List.getElem?_range h];rfl
 ·rw [if_neg h,List.getElem?_eq_none (by simpa using h)];rfl

theorem repeat_any (X m:Nat) (w:World) (hX:Blk w X 3 #[.int .i64 (-1)]) (hm:m≤1024) :
  Calls Tryz.prog 27 #[.slice (some ⟨X,0,none⟩) 1 1,.int .i64 m] w fun e w'=>e=.returned (.slice (some ⟨w.heap.size,0,none⟩) m m)∧Blk w' w.heap.size 3 (rowA m fun _=>.int .i64 (-1))∧Below w.heap.size w w':=by
 have HMU:=lh (mul_one' m (by omega) w)
 have hmk:∀ W:World,(Instr.makeSlice 26 (.int .i64 m) (.int .i64 m)).run Tryz.prog W=.ok (.slice (some ⟨W.heap.size,0,none⟩) m m) (W.alloc (.cells (madeCells #[.int .i64 0] m) 3)):=fun W=>run_make_row' _ _ _ 8 Tryz.underlying26 Tryz.info3 rfl .i64 .i64 m (by omega) (by omega) W
 have hwu:IntKind.u64.wrap (m:Int)=m:=by rw [IntKind.wrap_u64];omega
 have hwi:IntKind.i64.wrap (m:Int)=m:=by rw [IntKind.wrap_i64];omega
 have hw1:IntKind.u64.wrap 1=1:=by decide
 have g1:¬ (m:Int)<0:=by omega
 have g2:¬ (m:Int) > 9223372036854775807:=by omega
 have HX:=lh hX
 have hxl:=hX.lt
 have H0:Hid ((w.alloc (.cells (madeCells #[.int .i64 0] m) 3)).heap[w.heap.size]?=some (.cells (rpL (.int .i64 (-1)) (.int .i64 0) 0 m).toArray 3 (0,0))):=lh (by
  have h:=Blk.new w 3 (madeCells #[.int .i64 0] m)
  have e:madeCells #[.int .i64 0] m=(rpL (.int .i64 (-1)) (.int .i64 0) 0 m).toArray:=by
   rw [rowA_made]
   unfold rpL rowA
   congr 1
   apply List.ext_getElem?
   intro i
   simp [List.getElem?_replicate,List.getElem?_map]
   by_cases h:i<m
   ·rw [if_pos h,List.getElem?_range h];rfl
   ·rw [if_neg h,List.getElem?_eq_none (by simpa using h)];rfl
  rw [← e]
  exact h)
 have HB0:Hid (Below w.heap.size w (w.alloc (.cells (madeCells #[.int .i64 0] m) 3))):=lh ((Below.refl _ _).alloc (Nat.le_refl _) _)
 obtain ⟨c,hc⟩:∃ c,c=Nat.min 1 m:=⟨_,rfl⟩
 have hc2:c≤m∧(1≤c∨m=0)∧c≤1:=by
  rw [hc]
  show min 1 m≤m∧(1≤min 1 m∨m=0)∧min 1 m≤1
  omega
 have HC:=lh hc
 have HC2:=lh hc2
 have HS:Hid (∀ (o:Obj) j v,(List.replicate c (Value.int .i64 (-1)))[j]?=some v→(w.alloc o).cell? ((⟨X,0,none⟩:Addr).add j)=some v):=lh fun o j v hj=>by
  rw [List.getElem?_replicate] at hj
  by_cases hjc:j<c
  ·rw [if_pos hjc] at hj
   injection hj with hj
   obtain rfl:j=0:=by omega
   rw [← hj]
   exact (HX.out.alloc o).cell 0
  ·rw [if_neg hjc] at hj;cases hj
 have HFI:Hid (0+(List.replicate c (Value.int .i64 (-1))).length≤(rpL (.int .i64 (-1)) (.int .i64 0) 0 m).length):=lh (by rw [rpL_len _ _ (by omega),List.length_replicate];omega)
 have HO1:Hid (∀ c,∀ v ∈ List.replicate c (Value.int .i64 (-1)),v.oneCell'=true):=lh fun c v hv=>by rw [(List.mem_replicate.1 hv).2];rfl
 clear hX hc hc2
 go_enter Tryz.func27,Tryz.ntmps27
 go_wp2_with (first
  | (go_at_call 52;refine HMU.out.mono ?_;rintro e w2 ⟨rfl,rfl⟩)
  | (refine wpList_copy_splice rfl _ _ 26 26 rfl 3 Tryz.underlying26 (by kernel_rfl) (some ⟨w2.heap.size,0,none⟩) (some ⟨X,0,none⟩) m m 1 1 rfl rfl w2.heap.size 0 _ _ H0.out (List.replicate c (.int .i64 (-1))) (by rw [List.length_replicate];exact HC.out) (fun hp=>⟨rfl,_,rfl,HS.out _⟩) HFI.out (HO1.out c) w2.heap.size w2 HB0.out (Nat.le_refl _) ?_;intro w3 h3 hb3;have H3:=lh h3;have HB3:=lh hb3;clear h3 hb3)
  | go_in)
 have H4:Hid (w3.heap[w2.heap.size]?=some (.cells (rpL (.int .i64 (-1)) (.int .i64 0) c m).toArray 3 (0,0))):=lh (by
  have h:=H3.out
  rw [rpL_splice _ _ (by rw [Nat.zero_add];exact HC2.out.1),Nat.zero_add] at h
  exact h)
 clear H3 H0 HB0 HMU HS HFI hmk
 obtain ⟨g,hg⟩:∃ g,g=w2.heap.size:=⟨_,rfl⟩
 have HG:=lh hg
 rw [← hg] at H4 HB3 ⊢
 clear hg
 go_loopw [8] (fun s wr=>∃ k:Nat,s=.int .i64 k∧Hid (1≤k∨m=0)∧k≤m∧Hid (wr.heap[g]?=some (.cells (rpL (.int .i64 (-1)) (.int .i64 0) k m).toArray 3 (0,0)))∧Hid (Below g w2 wr)) (fun s _=>m-(intOf s).toNat)
 case atStart=>exact ⟨c,by simp [goInt],lh HC2.out.2.1,HC2.out.1,H4,HB3⟩
 case round =>
  clear H4 HB3
  obtain ⟨k,rfl,hk1,hk,HR,HB⟩:=hrel
  by_cases hlt:k<m
  ·have hk0:0<k:=by have:=hk1.out;omega
   obtain ⟨c2,hc2⟩:∃ c2,c2=Nat.min k (m-k):=⟨_,rfl⟩
   have hcc:c2≤m-k∧c2≤k∧0<c2:=by
    rw [hc2]
    show min k (m-k)≤m-k∧min k (m-k)≤k∧0<min k (m-k)
    omega
   have HC3:=lh hc2
   have HS:Hid (∀ j v,(List.replicate c2 (Value.int .i64 (-1)))[j]?=some v→wr.drew.cell? ((⟨g,0,none⟩:Addr).add j)=some v):=lh fun j v hj=>by
    rw [List.getElem?_replicate] at hj
    by_cases hjc:j<c2
    ·rw [if_pos hjc] at hj
     have ea:(⟨g,0,none⟩:Addr).add j=⟨g,j,none⟩:=by simp [Addr.add];exact Eq.symm
     have hb:Blk wr.drew g 3 (rpL (.int .i64 (-1)) (.int .i64 0) k m).toArray:=HR.out
     rw [ea,hb.cell,List.getElem?_toArray,rpL_at _ _ (by omega),← hj]
    ·rw [if_neg hjc] at hj;cases hj
   have HFI:Hid (k+(List.replicate c2 (Value.int .i64 (-1))).length≤(rpL (.int .i64 (-1)) (.int .i64 0) k m).length):=lh (by rw [rpL_len _ _ hk,List.length_replicate];omega)
   have HNX:Hid (∀ w':World,Hid (w'.heap[g]?=some (.cells (splice (rpL (.int .i64 (-1)) (.int .i64 0) k m) k (List.replicate c2 (.int .i64 (-1)))).toArray 3 (0,0)))→w'.heap[g]?=some (.cells (rpL (.int .i64 (-1)) (.int .i64 0) (k+c2) m).toArray 3 (0,0))):=lh fun w' h=>by
    have h:=h.out
    rw [rpL_splice _ _ (by omega)] at h
    exact h
   have HCC:=lh hcc
   have hne:¬ m=k:=by omega
   have HRD:Hid (wr.drew.heap[g]?=some (.cells (rpL (.int .i64 (-1)) (.int .i64 0) k m).toArray 3 (0,0))):=HR
   have HBD:Hid (Below g w2 wr.drew):=lh HB.out.drew
   obtain ⟨W5,hrun,H5,HB5⟩:∃ W5,(Builtin.copy_ #[26,26] 3 #[.slice (some ⟨g,k,none⟩) (m-k) (m-k),.slice (some ⟨g,0,none⟩) k m]).run Tryz.prog wr.drew=.ok (.int .i64 c2) W5 ∧
     Hid (W5.heap[g]?=some (.cells (rpL (.int .i64 (-1)) (.int .i64 0) (k+c2) m).toArray 3 (0,0)))∧Hid (Below g w2 W5):=by
    have h:=run_copy_row (P:=Tryz.prog) wr.drew 26 26 3 3 g k (m-k) (m-k) ⟨g,0,none⟩ k m _ 3 (List.replicate c2 (.int .i64 (-1))) Tryz.underlying26 (by kernel_rfl) HRD.out (by rw [List.length_replicate];exact HC3.out) HS.out (by have:=HFI.out;simpa using this) (HO1.out c2)
    refine ⟨_,by rw [h,List.length_replicate];rfl,lh (HNX.out _ (lh ?_)),lh (below_setRow HBD.out (Nat.le_refl _) _)⟩
    have h6:=setRow_heap wr.drew g _ (splice (rpL (.int .i64 (-1)) (.int .i64 0) k m) k (List.replicate c2 (.int .i64 (-1)))).toArray 3 _ HRD.out
    simpa [splice] using h6
   have hkc:k+c2≤m:=by omega
   have hc0:0<c2:=hcc.2.2
   clear hc2 hcc HR HB
   go_wp2
   go_region
   all_goals
    go_wp2
    go_roundw
    case rel=>exact ⟨k+c2,by go_num,lh (Or.inl (by omega)),hkc,H5,HB5⟩
    case measure=>simp [intOf];omega
  ·obtain rfl:m=k:=by omega
   go_wp2
   first | go_end0 | go_ret
   have h:=HR.out
   rw [rpL_full] at h
   rw [HG.out]
   exact ⟨rfl,by rw [← HG.out];exact h,by rw [← HG.out];exact HB.out⟩
structure ASt where
 bd:Nat→Int
 L:Nat→List Int
 nx:Int
 us:List U3
def asE (st:ASt) (s:Iv):(Nat→List Int) × List U3:=endB s.f st.us.length st.L st.us
def asL (kd:Nat→Nat) (st:ASt) (s:Iv):Nat→List Int:=lfL s.h (kd s.p.toNat) (asE st s).1 st.nx
def asI (kd:Nat→Nat) (st:ASt) (s:Iv):Nat:=lfI s.h (kd s.p.toNat) (asE st s).1
def asN (kd:Nat→Nat) (st:ASt) (s:Iv):Nat:=(asL kd st s (asI kd st s)).length-1
def asB (kd:Nat→Nat) (st:ASt) (s:Iv):Int:=(asL kd st s (asI kd st s)).getD (asN kd st s) 0
def asStep (kd:Nat→Nat) (st:ASt) (s:Iv):ASt :=
 ⟨upd st.bd s.p.toNat (asB kd st s),upd (asL kd st s) (asI kd st s) ((asL kd st s (asI kd st s)).take (asN kd st s)),lfX s.h (kd s.p.toNat) (asE st s).1 st.nx,tkU (asE st s).2 ⟨asB kd st s,s.t,asI kd st s⟩⟩
def as0:ASt:=⟨fun _=>-1,newL 6,16,[]⟩
def asRun (kd:Nat→Nat) (S:Nat→Iv):Nat→ASt
 | 0=>as0
 | i+1=>asStep kd (asRun kd S i) (S i)

structure AsOk (i:Nat) (st:ASt):Prop where
 uok:UOk st.us
 nx:16≤st.nx∧st.nx≤16+i
 len:∀ l,l<4→(st.L l).length+st.us.length≤16+i
theorem as0_ok:AsOk 0 as0:=⟨fun k=>by simp [as0,u0],by simp [as0],fun l hl=>by have:=newL_len 6 l;simp [as0];omega⟩
theorem lfL_other {held:Bool} {kd:Nat} {L:Nat→List Int} {nx:Int} {l:Nat} (h:l≠lfI held kd L):lfL held kd L nx l=L l:=by
 unfold lfL
 by_cases e:lfN held kd (L 0).length (L 1).length (L (2+kd)).length=true
 ·rw [if_pos e]
  have e2:lfI held kd L=2+kd:=by
   unfold lfN at e
   simp at e
   exact e.1
  rw [upd_ne (by rw [← e2];exact h)]
 ·rw [if_neg e]
theorem lfL_len {held:Bool} {kd:Nat} {L:Nat→List Int} {nx:Int} (l:Nat):(lfL held kd L nx l).length≤(L l).length+1:=by
 unfold lfL
 split
 ·by_cases e:l=2+kd
  ·rw [e,upd_at];simp
  ·rw [upd_ne e];omega
 ·omega
theorem tkU_len (us:List U3) (u:U3):(tkU us u).length=us.length+1:=by unfold tkU;rw [upU_len];simp
theorem as_step {kd:Nat→Nat} {st:ASt} {s:Iv} {i:Nat} (h:AsOk i st) (hk:kd s.p.toNat<2) (hU:UOk (asE st s).2) (hN:∀ l,l<4→((asE st s).1 l).length+(asE st s).2.length≤16+i):AsOk (i+1) (asStep kd st s):=by
 refine ⟨(hU.push (u:=⟨asB kd st s,s.t,asI kd st s⟩) (lfI_lt hk)).up _ _ _,?_,fun l hl=>?_⟩
 ·have:=h.nx
  show 16≤lfX s.h (kd s.p.toNat) (asE st s).1 st.nx∧lfX s.h (kd s.p.toNat) (asE st s).1 st.nx≤16+((i+1:Nat):Int)
  unfold lfX
  split <;> omega
 ·show (upd (asL kd st s) (asI kd st s) ((asL kd st s (asI kd st s)).take (asN kd st s)) l).length+(tkU (asE st s).2 _).length≤16+(i+1)
  rw [tkU_len]
  have h1:=hN l hl
  by_cases e:l=asI kd st s
  ·rw [e,upd_at,List.length_take]
   have h2:(asL kd st s (asI kd st s)).length≤((asE st s).1 (asI kd st s)).length+1:=lfL_len _
   rw [e] at h1
   unfold asN
   omega
  ·rw [upd_ne e,show asL kd st s l=(asE st s).1 l from lfL_other e]
   omega
theorem KpB.bel {w w1 w2:World} {b:Nat} (h:KpB w w1 b) (k:Below w.heap.size w1 w2):KpB w w2 b :=
 ⟨k.os.trans h.os,k.tape.trans h.tape,k.output.trans h.output,Nat.le_trans h.size k.size,fun i hi hne=>(k.block i hi).trans (h.block i hi hne)⟩
def kdL (ks:List Int) (p:Nat):Nat:=(ks.getD p 0).toNat
structure AsI (w:World) (R c m n g rb:Nat) (ks:List Int) (S:Nat→Iv) (i:Nat) (wr:World):Prop where
 room:∃ V uv,RmI (fun _=>none) rb V (asRun (kdL ks) S i).L (asRun (kdL ks) S i).nx uv (asRun (kdL ks) S i).us wr
 bd:Blk wr g 3 (rowA m fun q=>.int .i64 ((asRun (kdL ks) S i).bd q))
 row:Blk wr R 56 (ivA c S)
 kp:KpB w wr R
 ok:AsOk i (asRun (kdL ks) S i)
 lt:R<w.heap.size∧w.heap.size≤g∧g<rb

theorem RmI.lowSet {rb:Nat} {V:Nat→Value} {L:Nat→List Int} {nx:Int} {uv:Value} {us:List U3} {w:World} (h:RmI (fun _=>none) rb V L nx uv us w) {g:Nat} (hg:g<rb) (i:Nat) (u:Value):RmI (fun _=>none) rb V L nx uv us (w.setCell ⟨g,i,none⟩ u):=by
 have hf:∀ k,k≠g→(w.setCell ⟨g,i,none⟩ u).heap[k]?=w.heap[k]?:=fun k hk=>Below.heap_setCell w ⟨g,i,none⟩ u k hk
 refine ⟨h.box.far (p:=⟨g,i,none⟩) (by simp;omega) u,fun l hl=>own_kept (h.own l hl) fun k hk=>hf k ?_,h.sep,own_kept h.uses fun k hk=>hf k ?_,fun _ _ hk=>by cases hk⟩
 ·have:=(own_block_le (h.own l hl) hk).1;omega
 ·have:=(own_block_le h.uses hk).1;omega
theorem assign_any (R n c m:Nat) (kc:Nat) (ko:Option Addr) (G:Nat→Iv) (ks:List Int) (w:World) (h:Blk w R 56 (ivA c G)) (hB:BdF n G) (hn:n≤c) (hc:c≤5000) (hn1:n≤1024) (hm:m≤1024)
  (hk:Reads w w.heap.size 1 ko m (u8c ks)) (hkb:∀ (b off:Nat),ko=some ⟨b,off,none⟩→0<m→b≠R) (hk2:∀ x ∈ ks,0≤x∧x<2) (hP:∀ j,j<n→∃ q:Nat,(G j).p=q∧q<m) :
  Calls Tryz.prog 15 #[.slice (some ⟨R,0,none⟩) n c,.slice ko m kc] w fun e w'=>∃ g,e=.returned (.slice (some ⟨g,0,none⟩) m m)∧w.heap.size≤g∧Blk w' g 3 (rowA m fun q=>.int .i64 ((asRun (kdL ks) (stb kyF n G) n).bd q))∧KpB w w' R:=by
 have HSO:=lh (sortS_any R n c G w h hB hn hc)
 have hrl:=h.lt
 have HPR:=lh (stb_ok kyF n G).2
 obtain ⟨S,hS⟩:∃ S,S=stb kyF n G:=⟨_,rfl⟩
 rw [← hS] at HSO HPR ⊢
 have HP:Hid (∀ j,j<n→∃ q:Nat,(S j).p=q∧q<m):=lh fun j hj=>by
  obtain ⟨π,ρ,hπ⟩:=HPR.out
  have h5:=hπ j hj
  rw [h5.2.2.2.2]
  exact hP _ h5.1
 have HK:=lh hk
 have HKB:=lh hkb
 have HK2:=lh hk2
 clear h hB hk hkb hk2 hS hP HPR
 go_enter Tryz.func15,Tryz.ntmps15
 go_upto_region 2 with (go_at_call 25;refine HSO.out.mono ?_;rintro e w1 ⟨rfl,hs1⟩;have HS1:=lh hs1;clear hs1)
 clear HSO
 have HRP:=lh (repeat_any w1.heap.size m (w1.alloc (.cells #[.int .i64 (-1)] 3)) (Blk.new w1 _ _) hm)
 have hz1:(w1.alloc (.cells #[.int .i64 (-1)] 3)).heap.size=w1.heap.size+1:=by simp
 rw [hz1] at HRP
 have HZ1:=lh hz1
 clear hz1
 go_upto_region 4 with (first
  | (go_at_call 27;refine HRP.out.mono ?_;rintro e w2 ⟨rfl,hb2,hl2⟩;have HB2:=lh hb2;have HL2:=lh hl2;have HNR:=lh (newRoom_any (ks:=fun _=>none) w2 (fun g o hk=>by cases hk));clear hb2 hl2)
  | (go_at_call 28;refine HNR.out.mono ?_;rintro e w3 ⟨rfl,⟨V3,hr3⟩,hl3⟩;have HR3:=lh hr3;have HL3:=lh hl3;clear hr3 hl3))
 obtain ⟨g,hg⟩:∃ g,g=w1.heap.size+1:=⟨_,rfl⟩
 obtain ⟨rb,hrb⟩:∃ g,g=w2.heap.size:=⟨_,rfl⟩
 rw [← hg] at HB2 ⊢
 rw [← hrb] at HR3 HL3 ⊢
 have HG:=lh hg
 have HRB:=lh hrb
 have H0:Hid (AsI w R c m n g rb ks S 0 w3):=lh (by
  have q1:=HS1.out.kp.size
  have q2:=HB2.out.lt
  have q3:=HL2.out.size
  have hl12:Below w1.heap.size w1 w2:=((Below.refl _ _).alloc (Nat.le_refl _) _).trans (HL2.out.mono (by omega))
  have hl13:Below w1.heap.size w1 w3:=hl12.trans (HL3.out.mono (by rw [hrb];exact hl12.size))
  refine ⟨⟨_,_,HR3.out⟩,HB2.out.below HL3.out (by rw [hrb];exact q2),HS1.out.row.below hl13 HS1.out.row.lt,HS1.out.kp.bel (hl13.mono q1),as0_ok,hrl,by omega,by omega⟩)
 clear hg hrb HB2 HL2 HR3 HL3 HRP HNR HS1 HZ1
 go_wp2
 go_loopw [18] (fun s wr=>∃ i:Nat,s=.int .i64 i∧i≤n∧Hid (AsI w R c m n g rb ks S i wr)) (fun s _=>n-(intOf s).toNat)
 case atStart=>exact ⟨0,rfl,by omega,H0⟩
 case round =>
  clear H0
  obtain ⟨i,rfl,hi,HX⟩:=hrel
  by_cases hlt:i<n
  ·obtain ⟨q,hq,hqm⟩:=HP.out i hlt
   obtain ⟨V,uv,hrm⟩:=HX.out.room
   obtain ⟨st,hst⟩:∃ st,st=asRun (kdL ks) S i:=⟨_,rfl⟩
   obtain ⟨s,hs⟩:∃ s,s=S i:=⟨_,rfl⟩
   have hnx:asRun (kdL ks) S (i+1)=asStep (kdL ks) st s:=by rw [hst,hs];rfl
   have hok:=HX.out.ok
   have hbd:=HX.out.bd
   rw [← hst] at hrm hok hbd
   have hrl':=HX.out.row
   have x0:wr.cell? ⟨R,i*4,none⟩=some (.int .i64 s.p):=by rw [hs,hrl'.cell];exact ivA_at (j:=0) _ (by omega) (by decide)
   have x1:wr.cell? ⟨R,i*4+1,none⟩=some (.int .i64 s.f):=by rw [hs,hrl'.cell,ivA_at _ (by omega) (by decide)];rfl
   have x2:wr.cell? ⟨R,i*4+2,none⟩=some (.int .i64 s.t):=by rw [hs,hrl'.cell,ivA_at _ (by omega) (by decide)];rfl
   have x3:wr.cell? ⟨R,i*4+3,none⟩=some (.bool s.h):=by rw [hs,hrl'.cell,ivA_at _ (by omega) (by decide)];rfl
   rw [← hs] at hq
   have HEQ:Hid (s.p=(q:Int)):=lh hq
   have HST:=lh hnx
   have hgd:=hrm.guard (.cells #[.int .i64 q,.int .i64 s.f,.int .i64 s.t,.bool s.h] 56)
   have HEB:=lh (endB_any s.f (16+i) hgd hok.uok hok.len (by omega))
   have HOK:=lh hok
   have HBD:=lh hbd
   have hwrs:rb<wr.heap.size:=hrm.box.lt
   rw [hq] at x0
   obtain ⟨sf,hsf⟩:∃ x,x=s.f:=⟨_,rfl⟩
   obtain ⟨sh,hsh⟩:∃ x,x=s.h:=⟨_,rfl⟩
   obtain ⟨se,hse⟩:∃ x,x=s.t:=⟨_,rfl⟩
   rw [← hsf] at x1 HEB
   rw [← hse] at x2 HEB
   rw [← hsh] at x3 HEB
   have HEE:Hid (asE st s=endB sf st.us.length st.L st.us):=lh (by rw [hsf];rfl)
   have HSX:=lh (And.intro hsf (And.intro hsh hse))
   clear hq hnx hok hbd hrl' hgd hrm hs hst hsf hsh hse
   obtain ⟨kb,ko2,rfl,hkb,hkc⟩:=HK.out.lit (by omega) (by omega)
   have hql:q<ks.length:=by have:=HK.out.1;rw [length_u8c] at this;omega
   have hkv:ks[q]?=some ((kdL ks q:Nat):Int):=by
    rw [List.getElem?_eq_getElem hql]
    have h1:=HK2.out ks[q] (List.getElem_mem hql)
    unfold kdL
    rw [List.getD_eq_getElem?_getD,List.getElem?_eq_getElem hql,Option.getD_some]
    congr 1
    omega
   have hk2':kdL ks q<2:=by
    have h1:=HK2.out ks[q] (List.getElem_mem hql)
    unfold kdL
    rw [List.getD_eq_getElem?_getD,List.getElem?_eq_getElem hql,Option.getD_some]
    omega
   have HKW:Hid (∀ W,Below rb wr W→W.cell? ⟨kb,ko2+q,none⟩=some (.int .u8 ((kdL ks q:Nat):Int))):=lh fun W hW=>by
    have h1:=hkc _ _ (u8c_at hkv)
    have hne:=HKB.out kb ko2 rfl (by omega)
    have hlt3:=HX.out.lt
    rw [hW.cell (show kb<rb by omega),World.cell?_of_block (HX.out.kp.block kb hkb (by simpa using hne))]
    exact h1
   have HK3:=lh hk2'
   clear hkc hkv hql hk2'
   obtain ⟨kv,hkv⟩:∃ kv:Int,kv=((kdL ks q:Nat):Int):=⟨_,rfl⟩
   rw [← hkv] at HKW
   have HKV:=lh hkv
   clear hkv
   go_upto_region 8 with (go_at_call 29;refine HEB.out.mono ?_;rintro e w5 ⟨rfl,⟨V5,uv5,hr5⟩,hb5,hu5,hl5⟩;have HR5:=lh hr5;have HB5:=lh (((Below.refl rb wr).alloc (Nat.le_of_lt hwrs) _).trans hb5);have HU5:=lh hu5;have HL5:=lh hl5;have y1:w5.cell? ⟨wr.heap.size,1,none⟩=some (.int .i64 sf):=hr5.guarded.cell 1;clear hr5 hb5 hu5 hl5)
   have y0:w5.cell? ⟨wr.heap.size,0,none⟩=some (.int .i64 q):=HR5.out.guarded.cell 0
   have y2:w5.cell? ⟨wr.heap.size,2,none⟩=some (.int .i64 se):=HR5.out.guarded.cell 2
   have y3:w5.cell? ⟨wr.heap.size,3,none⟩=some (.bool sh):=HR5.out.guarded.cell 3
   have yk:=HKW.out _ HB5.out
   have HN5:Hid (AsOk (i+1) (asStep (kdL ks) st s)):=lh (by
    have e1:s.p.toNat=q:=by rw [HEQ.out];simp
    refine as_step HOK.out (by rw [e1];exact HK3.out) (by rw [HEE.out];exact HU5.out) (fun l hl=>by rw [HEE.out];exact HL5.out l hl))
   have HTK:Hid (Calls Tryz.prog 30 #[.pointer (some ⟨rb,0,none⟩),.agg #[.int .i64 q,.int .i64 sf,.int .i64 se,.bool sh],.int .u8 kv] w5.drew fun e w'=>e=.returned (.int .i64 (asB (kdL ks) st s)) ∧
     (∃ V' uv',RmI (addK (fun _=>none) wr.heap.size (.cells #[.int .i64 q,.int .i64 sf,.int .i64 se,.bool sh] 56)) rb V' (asStep (kdL ks) st s).L (asStep (kdL ks) st s).nx uv' (asStep (kdL ks) st s).us w')∧Below rb w5.drew w'):=lh (by
    have hq2:=HK3.out
    have hr:=HR5.out.drewN1
    have hl:=HL5.out
    have hkv:=HKV.out
    have e0:=HEE.out
    rw [← e0] at hr hl
    have e1:s.p.toNat=q:=by rw [HEQ.out];simp
    have e2:=HSX.out.1
    have e3:=HSX.out.2.1
    have e4:=HSX.out.2.2
    clear HEB HR5 HL5 HU5 HEQ HSX HEE e0 x0 x1 x2 x3 y0 y1 y2 y3 yk HKW HKV HK3
    subst e2 e3 e4 e1
    rw [hkv]
    have hnx:=HOK.out.nx
    have h5:∀ l,l<4→(asL (kdL ks) st s l).length≤5000:=fun l hl4=>by
     have h1:=hl l hl4
     have h2:(asL (kdL ks) st s l).length≤((asE st s).1 l).length+1:=lfL_len l
     omega
    have hpos:0<(asL (kdL ks) st s (asI (kdL ks) st s)).length:=lfL_ne
    exact take_any s.h hq2 _ _ _ hr (by omega) (by have:=hl 0 (by omega);omega) h5 (k:=asN (kdL ks) st s) (show (asL (kdL ks) st s (asI (kdL ks) st s)).length=asN (kdL ks) st s+1 from by unfold asN;omega))
   obtain ⟨bv,hbv⟩:∃ b,b=asB (kdL ks) st s:=⟨_,rfl⟩
   rw [← hbv] at HTK
   have HFI:Hid (∀ w6,(∃ V' uv',RmI (addK (fun _=>none) wr.heap.size (.cells #[.int .i64 q,.int .i64 sf,.int .i64 se,.bool sh] 56)) rb V' (asStep (kdL ks) st s).L (asStep (kdL ks) st s).nx uv' (asStep (kdL ks) st s).us w6)→Below rb w5.drew w6 →
     w6.cell? ⟨wr.heap.size,0,none⟩=some (.int .i64 q)∧w6.frozen? ⟨g,q,none⟩=false∧(∃ y,w6.cell? ⟨g,q,none⟩=some y)∧AsI w R c m n g rb ks S (i+1) (w6.setCell ⟨g,q,none⟩ (.int .i64 bv))):=lh fun w6 ⟨V6,uv6,h6⟩ hb6=>by
    have hlt3:=HX.out.lt
    have hbw:Below rb wr w6:=HB5.out.drew.trans hb6
    have hbk:=HBD.out.below hbw hlt3.2.2
    have e1:s.p.toNat=q:=by rw [HEQ.out];simp
    refine ⟨h6.guarded.cell 0,hbk.frozen q,⟨_,by rw [hbk.cell];exact rowA_at _ hqm⟩,?_,?_,?_,?_,?_,hlt3⟩
    ·rw [HST.out]
     exact ⟨V6,uv6,(h6.sub (fun _ _ hk=>by cases hk)).lowSet hlt3.2.2 q _⟩
    ·have h7:=hbk.set_ q (.int .i64 bv)
     rw [rowA_set] at h7
     rw [HST.out]
     have e2:(upd (fun q=>Value.int .i64 (st.bd q)) q (Value.int .i64 bv))=fun p=>Value.int .i64 ((asStep (kdL ks) st s).bd p):=by
      funext p
      show upd _ q _ p=Value.int .i64 (upd st.bd s.p.toNat (asB (kdL ks) st s) p)
      rw [e1,← hbv]
      unfold upd
      split <;> rfl
     rw [← e2]
     exact h7
    ·exact (HX.out.row.below hbw (by omega)).far (p:=⟨g,q,none⟩) (by simp;omega) _
    ·exact HX.out.kp.bel ((hbw.mono (by omega)).setCell (p:=⟨g,q,none⟩) hlt3.2.1 _)
    ·rw [HST.out];exact HN5.out
   clear hbv HX HEB HR5 HU5 HL5 HKW HN5 HOK HBD HB5 HSX HEQ HEE HST x0 x1 x2 x3
   go_region_law (first
    | (go_simp;go_at_call 30;refine HTK.out.mono ?_;rintro e w6 ⟨rfl,hr6,hb6⟩;obtain ⟨z0,z1,⟨zy,z2⟩,z3⟩:=HFI.out _ hr6 hb6;have H6:=lh z3;clear hr6 hb6 z3))
   all_goals
    go_wp2
    go_roundw
    case rel=>exact ⟨i+1,by go_num,by omega,H6⟩
    case measure=>simp [intOf];omega
  ·obtain rfl:n=i:=by omega
   have hbd:=lh HX.out.bd
   have hkp:=lh HX.out.kp
   have hle:=HX.out.lt.2.1
   clear HX
   go_wp2
   first | go_end0 | go_ret
   exact ⟨g,rfl,hle,hbd.out,hkp.out⟩
end Go.Proofs.YtedmcfaghfgpoaaGreatDoor
