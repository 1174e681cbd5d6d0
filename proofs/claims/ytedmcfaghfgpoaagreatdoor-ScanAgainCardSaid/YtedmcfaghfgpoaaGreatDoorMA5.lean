/-
  Texts of one seat, one behind the other: OSpn, Set, New, LBit, LList, LOr, LNew.
-/
import Derived.Deep.OwnRows
import Derived.Deep.RegionLaw
import Derived.StillTailTactics
import Derived.Laws.BitsAllLaws
import Derived.Deep.CutBlock
import Derived.Test.YtedmcfaghfgpoaaGreatDoorMA4
import Derived.Test.YtedmcfaghfgpoaaGreatDoorMA2
import Derived.Test.YtedmcfaghfgpoaaGreatDoorMA3

set_option linter.unusedVariables false
set_option linter.unusedSimpArgs false
set_option maxRecDepth 100000
set_option maxHeartbeats 51200000
namespace Go.Proofs.YtedmcfaghfgpoaaGreatDoor
structure Iv where
 p:Int
 f:Int
 t:Int
 h:Bool
instance:DecidableEq Iv:=fun x y=>decidable_of_iff (x.p=y.p∧x.f=y.f∧x.t=y.t∧x.h=y.h)
 ⟨fun h=>by cases x;cases y;simp only [Iv.mk.injEq];exact h,fun h=>by subst h;exact ⟨rfl,rfl,rfl,rfl⟩⟩
def atL (l:List Int) (k:Nat):Nat:=(l.getD k 0).toNat
def WorkN (ns:List Nd) (p:Int) (i:Nat):Prop:=Live ns p i∨∃ n,ns[i]?=some n∧p ∈ writesOf n
def WorkP (ns:List Nd) (ps l:List Int) (p:Int) (k:Nat):Prop:=WorkN ns p (atL l k)∨(k=0∧p ∈ ps)
def HeldN (ns:List Nd) (p:Int) (i:Nat):Prop:=∃ n,ns[i]?=some n∧(n.op=11∨n.op=13)∧LiveO ns p i∧p ∉ writesOf n
theorem HeldN.work {ns:List Nd} {p:Int} {i:Nat} (h:HeldN ns p i):WorkN ns p i:=by
 obtain ⟨n,h1,_,⟨n2,h2,j,h3,h4⟩,h5⟩:=h
 rw [h1] at h2
 injection h2 with h2
 subst h2
 exact .inl (.next h1 h5 h3 h4)
open Classical in
noncomputable def ivK (ns:List Nd) (ps l:List Int) (p:Int):Nat→Iv
 | 0=>⟨p,-1,0,false⟩
 | k+1 =>
  let s:=ivK ns ps l p k
  if WorkP ns ps l p k then ⟨p,if s.f<0 then (k:Int) else s.f,k,s.h || decide (HeldN ns p (atL l k))⟩ else s
theorem ivK_p (ns:List Nd) (ps l:List Int) (p:Int):∀ k,(ivK ns ps l p k).p=p
 | 0=>rfl
 | k+1=>by
  rw [ivK]
  split
  ·rfl
  ·exact ivK_p ns ps l p k
theorem ivK_no {ns:List Nd} {ps l:List Int} {p:Int} {k:Nat} (h:¬ WorkP ns ps l p k):ivK ns ps l p (k+1)=ivK ns ps l p k:=by
 rw [ivK]
 rw [if_neg h]
open Classical in
theorem ivK_yes {ns:List Nd} {ps l:List Int} {p:Int} {k:Nat} (h:WorkP ns ps l p k):ivK ns ps l p (k+1)=⟨p,if (ivK ns ps l p k).f<0 then (k:Int) else (ivK ns ps l p k).f,k,(ivK ns ps l p k).h || decide (HeldN ns p (atL l k))⟩:=by
 rw [ivK]
 rw [if_pos h]
theorem ivK_ok (ns:List Nd) (ps l:List Int) (p:Int):∀ k,((ivK ns ps l p k).f=-1∧∀ j,j<k→¬ WorkP ns ps l p j)∨(0≤(ivK ns ps l p k).f∧(ivK ns ps l p k).f≤(ivK ns ps l p k).t∧(ivK ns ps l p k).t<k∧∀ j:Nat,j<k→WorkP ns ps l p j→(ivK ns ps l p k).f≤j∧(j:Int)≤(ivK ns ps l p k).t)
 | 0=>.inl ⟨rfl,fun j hj=>absurd hj (by omega)⟩
 | k+1=>by
  by_cases hw:WorkP ns ps l p k
  ·right
   rw [ivK_yes hw]
   simp only
   rcases ivK_ok ns ps l p k with ⟨h1,h2⟩ | ⟨h1,h2,h3,h4⟩
   ·rw [h1,if_pos (by decide)]
    refine ⟨by omega,by omega,by omega,fun j hj hwj=>?_⟩
    by_cases e:j=k
    ·omega
    ·exact absurd hwj (h2 j (by omega))
   ·rw [if_neg (by omega)]
    refine ⟨h1,by omega,by omega,fun j hj hwj=>?_⟩
    by_cases e:j=k
    ·omega
    ·have:=h4 j (by omega) hwj
     omega
  ·rw [ivK_no hw]
   rcases ivK_ok ns ps l p k with ⟨h1,h2⟩ | ⟨h1,h2,h3,h4⟩
   ·refine .inl ⟨h1,fun j hj=>?_⟩
    by_cases e:j=k
    ·subst e;exact hw
    ·exact h2 j (by omega)
   ·refine .inr ⟨h1,h2,by omega,fun j hj hwj=>?_⟩
    by_cases e:j=k
    ·subst e;exact absurd hwj hw
    ·exact h4 j (by omega) hwj
theorem ivK_le (ns:List Nd) (ps l:List Int) (p:Int) (k:Nat):-1≤(ivK ns ps l p k).f∧(ivK ns ps l p k).f≤k∧0≤(ivK ns ps l p k).t∧(ivK ns ps l p k).t≤k:=by
 induction k with
 | zero =>
  rw [show ivK ns ps l p 0=⟨p,-1,0,false⟩ from rfl]
  exact ⟨by show (-1:Int)≤-1;decide,by show (-1:Int)≤((0:Nat):Int);decide,Int.le_refl _,Int.le_refl _⟩
 | succ k ih =>
  by_cases hw:WorkP ns ps l p k
  ·rw [ivK_yes hw]
   simp only
   split <;> omega
  ·rw [ivK_no hw]
   omega
noncomputable def spansL (ns:List Nd) (ps l:List Int) (m:Nat):List Iv:=((List.range m).map fun p:Nat=>ivK ns ps l (p:Int) l.length).filter fun s=>decide (0≤s.f)
theorem spansL_mem {ns:List Nd} {ps l:List Int} {m:Nat} {s:Iv}:s ∈ spansL ns ps l m↔∃ p:Nat,p<m∧s=ivK ns ps l (p:Int) l.length∧0≤s.f:=by
 unfold spansL
 rw [List.mem_filter,List.mem_map]
 constructor
 ·rintro ⟨⟨p,hp,rfl⟩,h2⟩
  exact ⟨p,List.mem_range.1 hp,rfl,of_decide_eq_true h2⟩
 ·rintro ⟨p,hp,rfl,h2⟩
  exact ⟨⟨p,List.mem_range.2 hp,rfl⟩,decide_eq_true h2⟩
noncomputable def spansJ (ns:List Nd) (ps l:List Int) (j:Nat):List Iv:=spansL ns ps l j
theorem spansL_succ (ns:List Nd) (ps l:List Int) (j:Nat):spansL ns ps l (j+1)=spansL ns ps l j ++ (if 0≤(ivK ns ps l (j:Int) l.length).f then [ivK ns ps l (j:Int) l.length] else []):=by
 unfold spansL
 rw [List.range_succ,List.map_append,List.filter_append]
 congr 1
 rw [List.map_singleton]
 by_cases h:0≤(ivK ns ps l (j:Int) l.length).f
 ·rw [if_pos h,List.filter_cons_of_pos (by simpa using h),List.filter_nil]
 ·rw [if_neg h,List.filter_cons_of_neg (by simpa using h),List.filter_nil]
theorem spansL_len (ns:List Nd) (ps l:List Int) (m:Nat):(spansL ns ps l m).length≤m:=by
 unfold spansL
 have:=List.length_filter_le (fun s:Iv=>decide (0≤s.f)) ((List.range m).map fun p:Nat=>ivK ns ps l (p:Int) l.length)
 simpa using this
noncomputable def ivC (ns:List Nd) (ps l:List Int) (p:Int) (k:Nat):Iv:=let s:=ivK ns ps l p k;if s.f<0∧p ∈ ps then ⟨p,0,s.t,s.h⟩ else s
def recI (k:Nat) (s:Iv):Iv:=⟨s.p,if s.f=-1 then (k:Int) else s.f,k,s.h⟩
theorem recI_twice (k:Nat) (s:Iv):recI k (recI k s)=recI k s:=by
 unfold recI
 simp only
 by_cases h:s.f=-1
 ·rw [if_pos h,if_neg (by omega)]
 ·rw [if_neg h,if_neg h]
def recL (k:Nat) (xs:List Int) (g:Nat→Iv):Nat→Iv:=fun p=>if (p:Int) ∈ xs then recI k (g p) else g p
theorem recL_nil (k:Nat) (g:Nat→Iv):recL k [] g=g:=by
 funext p
 unfold recL
 rw [if_neg (by simp)]
theorem recL_snoc (k:Nat) (xs:List Int) (x:Nat) (g:Nat→Iv):recL k (xs ++ [(x:Int)]) g=fun p=>if p=x then recI k (recL k xs g p) else recL k xs g p:=by
 funext p
 unfold recL
 by_cases e:p=x
 ·subst e
  rw [if_pos rfl,if_pos (by simp)]
  by_cases h:(p:Int) ∈ xs
  ·rw [if_pos h,recI_twice]
  ·rw [if_neg h]
 ·rw [if_neg e]
  by_cases h:(p:Int) ∈ xs
  ·rw [if_pos h,if_pos (by simp [h])]
  ·rw [if_neg h,if_neg (by
    intro h2
    rcases List.mem_append.1 h2 with h2 | h2
    ·exact h h2
    ·have:=List.mem_singleton.1 h2
     omega)]
def helL (xs ws:List Int) (g:Nat→Iv):Nat→Iv:=fun p=>if (p:Int) ∈ xs∧(p:Int) ∉ ws then ⟨(g p).p,(g p).f,(g p).t,true⟩ else g p
theorem helL_nil (ws:List Int) (g:Nat→Iv):helL [] ws g=g:=by
 funext p
 unfold helL
 rw [if_neg (by simp)]
theorem helL_skip {xs ws:List Int} {x:Nat} {g:Nat→Iv} (h:(x:Int) ∈ ws):helL (xs ++ [(x:Int)]) ws g=helL xs ws g:=by
 funext p
 unfold helL
 by_cases e:(p:Int) ∈ xs∧(p:Int) ∉ ws
 ·rw [if_pos e,if_pos ⟨by simp [e.1],e.2⟩]
 ·rw [if_neg e,if_neg (by
   rintro ⟨h1,h2⟩
   rcases List.mem_append.1 h1 with h1 | h1
   ·exact e ⟨h1,h2⟩
   ·rw [List.mem_singleton.1 h1] at h2
    exact h2 h)]
theorem helL_add {xs ws:List Int} {x:Nat} {g:Nat→Iv} (h:(x:Int) ∉ ws):helL (xs ++ [(x:Int)]) ws g=fun p=>if p=x then ⟨(helL xs ws g p).p,(helL xs ws g p).f,(helL xs ws g p).t,true⟩ else helL xs ws g p:=by
 funext p
 unfold helL
 by_cases e:p=x
 ·subst e
  rw [if_pos rfl,if_pos ⟨by simp,h⟩]
  by_cases h1:(p:Int) ∈ xs∧(p:Int) ∉ ws
  ·rw [if_pos h1]
  ·rw [if_neg h1]
 ·rw [if_neg e]
  by_cases h1:(p:Int) ∈ xs∧(p:Int) ∉ ws
  ·rw [if_pos h1,if_pos ⟨by simp [h1.1],h1.2⟩]
  ·rw [if_neg h1,if_neg (by
    rintro ⟨h2,h3⟩
    rcases List.mem_append.1 h2 with h2 | h2
    ·exact h1 ⟨h2,h3⟩
    ·have:=List.mem_singleton.1 h2
     omega)]
open Classical in
theorem ivC_step {ns:List Nd} {ps l:List Int} {k:Nat} {n:Nd} {la lo:List Int} {m:Nat} (hn:ns[atL l k]?=some n) (hk:k<l.length)
  (hla:∀ p:Nat,p<m→((p:Int) ∈ la↔Live ns p (atL l k))) (hlo:∀ p:Nat,p<m→((p:Int) ∈ lo↔LiveO ns p (atL l k))) (p:Nat) (hp:p<m) :
  (if n.op=11∨n.op=13 then helL lo (writesOf n) (recL k (writesOf n) (recL k la fun p=>ivC ns ps l p k)) p else recL k (writesOf n) (recL k la fun p=>ivC ns ps l p k) p)=ivC ns ps l p (k+1):=by
 have hW:WorkN ns (p:Int) (atL l k)↔(p:Int) ∈ la∨(p:Int) ∈ writesOf n:=by
  unfold WorkN
  rw [hla p hp]
  constructor
  ·rintro (h | ⟨n2,h1,h2⟩)
   ·exact .inl h
   ·rw [hn] at h1
    injection h1 with h1
    subst h1
    exact .inr h2
  ·rintro (h | h)
   ·exact .inl h
   ·exact .inr ⟨n,hn,h⟩
 have hH:HeldN ns (p:Int) (atL l k)↔(n.op=11∨n.op=13)∧(p:Int) ∈ lo∧(p:Int) ∉ writesOf n:=by
  unfold HeldN
  rw [hlo p hp]
  constructor
  ·rintro ⟨n2,h1,h2,h3,h4⟩
   rw [hn] at h1
   injection h1 with h1
   subst h1
   exact ⟨h2,h3,h4⟩
  ·rintro ⟨h2,h3,h4⟩
   exact ⟨n,hn,h2,h3,h4⟩
 have hR:recL k (writesOf n) (recL k la fun p=>ivC ns ps l p k) p=if WorkN ns (p:Int) (atL l k) then recI k (ivC ns ps l p k) else ivC ns ps l p k:=by
  unfold recL
  by_cases h1:(p:Int) ∈ la
  ·rw [if_pos (hW.2 (.inl h1)),if_pos h1]
   by_cases h2:(p:Int) ∈ writesOf n
   ·rw [if_pos h2,recI_twice]
   ·rw [if_neg h2]
  ·rw [if_neg h1]
   by_cases h2:(p:Int) ∈ writesOf n
   ·rw [if_pos h2,if_pos (hW.2 (.inr h2))]
   ·rw [if_neg h2,if_neg (fun h=>by rcases hW.1 h with h | h;exact h1 h;exact h2 h)]
 have hC:∀ j,(ivK ns ps l (p:Int) j).f<0→(ivK ns ps l (p:Int) j).f=-1:=fun j hj=>by have:=(ivK_le ns ps l (p:Int) j).1;omega
 have hfin:(if WorkN ns (p:Int) (atL l k) then (⟨(p:Int),(recI k (ivC ns ps l p k)).f,k,(ivC ns ps l p k).h || decide ((n.op=11∨n.op=13)∧(p:Int) ∈ lo∧(p:Int) ∉ writesOf n)⟩:Iv) else ivC ns ps l p k)=ivC ns ps l p (k+1):=by
  have hdec:decide (HeldN ns (p:Int) (atL l k))=decide ((n.op=11∨n.op=13)∧(p:Int) ∈ lo∧(p:Int) ∉ writesOf n):=by
   exact Bool.eq_iff_iff.2 (by rw [decide_eq_true_iff,decide_eq_true_iff];exact hH)
  by_cases hw:WorkN ns (p:Int) (atL l k)
  ·rw [if_pos hw]
   unfold ivC
   simp only
   rw [ivK_yes (.inl hw)]
   simp only
   by_cases h0:(ivK ns ps l (p:Int) k).f<0
   ·have h1:=hC k h0
    by_cases hpp:(p:Int) ∈ ps
    ·rw [if_pos ⟨h0,hpp⟩,if_pos h0,if_neg (by rintro ⟨h2,_⟩;omega)]
     unfold recI
     simp only
     have hk0:k=0:=by
      rcases Nat.eq_zero_or_pos k with h | h
      ·exact h
      ·exfalso
       rcases ivK_ok ns ps l (p:Int) k with ⟨_,h2⟩ | ⟨h2,_⟩
       ·exact h2 0 h (.inr ⟨rfl,hpp⟩)
       ·omega
     subst hk0
     rw [← hdec]
     rfl
    ·rw [if_neg (fun h=>hpp h.2),if_pos h0,if_neg (fun h=>hpp h.2)]
     unfold recI
     simp only
     rw [h1,if_pos rfl,← hdec]
   ·rw [if_neg (fun h=>h0 h.1),if_neg h0,if_neg (fun h=>h0 h.1)]
    unfold recI
    simp only
    rw [if_neg (by omega),← hdec]
  ·rw [if_neg hw]
   have hnh:¬ HeldN ns (p:Int) (atL l k):=fun h=>hw h.work
   unfold ivC
   simp only
   by_cases hz:k=0∧(p:Int) ∈ ps
   ·obtain ⟨rfl,hpp⟩:=hz
    rw [ivK_yes (.inr ⟨rfl,hpp⟩)]
    rw [show (ivK ns ps l (p:Int) 0)=⟨p,-1,0,false⟩ from rfl]
    simp only
    rw [if_pos ⟨by decide,hpp⟩]
    simp [hnh]
   ·have hnw:¬ WorkP ns ps l (p:Int) k:=by
     rintro (h | h)
     ·exact hw h
     ·exact hz h
    rw [ivK_no hnw]
 rw [← hfin]
 have hp':(ivC ns ps l (p:Int) k).p=p:=by
  unfold ivC
  simp only
  split
  ·rfl
  ·exact ivK_p _ _ _ _ _
 by_cases hop:n.op=11∨n.op=13
 ·rw [if_pos hop]
  unfold helL
  by_cases h1:(p:Int) ∈ lo∧(p:Int) ∉ writesOf n
  ·have hw:WorkN ns (p:Int) (atL l k):=(hH.2 ⟨hop,h1⟩).work
   rw [if_pos h1,hR,if_pos hw,if_pos hw,decide_eq_true ⟨hop,h1⟩,Bool.or_true]
   unfold recI
   rw [hp']
  ·rw [if_neg h1,hR]
   by_cases hw:WorkN ns (p:Int) (atL l k)
   ·rw [if_pos hw,if_pos hw,decide_eq_false (fun h=>h1 h.2),Bool.or_false]
    unfold recI
    rw [hp']
   ·rw [if_neg hw,if_neg hw]
 ·rw [if_neg hop,hR]
  by_cases hw:WorkN ns (p:Int) (atL l k)
  ·rw [if_pos hw,if_pos hw,decide_eq_false (fun h=>hop h.1),Bool.or_false]
   unfold recI
   rw [hp']
  ·rw [if_neg hw,if_neg hw]
theorem ivC_end {ns:List Nd} {ps l:List Int} {p:Int} (h:0<l.length):ivC ns ps l p l.length=ivK ns ps l p l.length:=by
 unfold ivC
 simp only
 rw [if_neg]
 rintro ⟨h1,h2⟩
 rcases ivK_ok ns ps l p l.length with ⟨_,h3⟩ | ⟨h3,_⟩
 ·exact h3 0 h (.inr ⟨rfl,h2⟩)
 ·omega
theorem ivC_start (ns:List Nd) (ps l:List Int) (p:Nat):ivC ns ps l p 0=recL 0 ps (fun p=>⟨p,-1,0,false⟩) p:=by
 unfold ivC recL recI
 simp only
 rw [show (ivK ns ps l (p:Int) 0)=⟨p,-1,0,false⟩ from rfl]
 simp only
 by_cases h:(p:Int) ∈ ps
 ·rw [if_pos ⟨by decide,h⟩,if_pos h]
  rfl
 ·rw [if_neg (fun h2=>h h2.2),if_neg h]
theorem spans_meet {ns:List Nd} {ps l:List Int} {p:Int} {k:Nat} (hk:k<l.length) (h:Live ns p (atL l k)):0≤(ivK ns ps l p l.length).f∧(ivK ns ps l p l.length).f≤k∧(k:Int)≤(ivK ns ps l p l.length).t:=by
 rcases ivK_ok ns ps l p l.length with ⟨_,h3⟩ | ⟨h1,_,_,h4⟩
 ·exact absurd (.inl (.inl h)) (h3 k hk)
 ·exact ⟨h1,h4 k hk (.inl (.inl h))⟩
open Go.ChangeShapes Go.WideShapes Go.ChangeAt Go.RowKit
theorem wrap_u64_eq (n:Int):IntKind.u64.wrap n=n % 18446744073709551616:=IntKind.wrap_u64 n
theorem pow_lt64 {c:Nat} (h:c<64):(2:Nat) ^ c<18446744073709551616:=Nat.pow_lt_pow_right (by decide) h
theorem pow_int (c:Nat):(2:Int) ^ c=((2 ^ c:Nat):Int):=by rw [Int.natCast_pow];rfl
theorem wrap_small {x:Nat} (h:x<18446744073709551616):IntKind.u64.wrap (x:Int)=(x:Int):=by
 rw [wrap_u64_eq]
 omega
theorem bit_wrap {c:Nat} (h:c<64):IntKind.u64.wrap ((2:Int) ^ c)=((2 ^ c:Nat):Int):=by
 rw [pow_int]
 exact wrap_small (pow_lt64 h)
theorem bit_any (i:Int) (c:Nat) (hc:i.tmod 64=(c:Int)) (h:c<64) (w:World):Calls Tryz.prog 103 #[.int .i64 i] w fun e w'=>e=.returned (.int .u64 ((2 ^ c:Nat):Int))∧w'=w:=by
 have hb:=bit_wrap h
 have hm:min c 64=c:=Nat.min_eq_left (by omega)
 have g0:decide ((c:Int)<0)=false:=by simp
 go_enter Tryz.func103,Tryz.ntmps103
 go_wp2
 go_ret
 refine ⟨?_,rfl⟩
 simp [hm]
 try exact hb.trans (pow_int c).symm
theorem takes_nil (i:Int) (w:World):Calls Tryz.prog 101 #[.pointer none,.int .i64 i] w fun e w'=>e=.returned (.bool false)∧w'=w:=by
 go_enter Tryz.func101,Tryz.ntmps101
 go_wp2
 go_ret
 exact ⟨rfl,rfl⟩
theorem takes_yes (p:Nat) (i n:Int) (w:World) (h0:w.cell? ⟨p,0,none⟩=some (.int .i64 n)) (h1:0≤i) (h2:i<n):Calls Tryz.prog 101 #[.pointer (some ⟨p,0,none⟩),.int .i64 i] w fun e w'=>e=.returned (.bool true)∧w'=w:=by
 have g0:decide (i≥0)=true:=by simpa using h1
 have g1:decide (0≤i)=true:=by simpa using h1
 have g2:decide (i<n)=true:=by simpa using h2
 clear h1 h2
 go_enter Tryz.func101,Tryz.ntmps101
 go_wp2
 go_ret
 exact ⟨rfl,rfl⟩
theorem takes_no (p:Nat) (i n:Int) (w:World) (h0:w.cell? ⟨p,0,none⟩=some (.int .i64 n)) (h1:i<0∨n≤i):Calls Tryz.prog 101 #[.pointer (some ⟨p,0,none⟩),.int .i64 i] w fun e w'=>e=.returned (.bool false)∧w'=w:=by
 by_cases hi:i<0
 ·have g0:decide (i≥0)=false:=by simpa using hi
  have g1:decide (0≤i)=false:=by simpa using hi
  clear h1 hi
  go_enter Tryz.func101,Tryz.ntmps101
  go_wp2
  go_ret
  exact ⟨rfl,rfl⟩
 ·have g0:decide (i≥0)=true:=by simp;omega
  have g1:decide (0≤i)=true:=by simp;omega
  have g2:decide (i<n)=false:=by simp;omega
  clear h1 hi
  go_enter Tryz.func101,Tryz.ntmps101
  go_wp2
  go_ret
  exact ⟨rfl,rfl⟩
theorem info_u64':(Tryz.prog.info? 45).map (fun i=>(i.zero,i.size,i.bytes))=some (some (.int .u64 0),1,8):=by kernel_rfl
def newW (w:World) (m q:Nat):World:=(w.alloc (.cells (madeCells #[.int .u64 0] q) 45)).alloc (.cells #[.int .i64 m,.slice (some ⟨w.heap.size,0,none⟩) q q] 154)
theorem new_any (n:Int) (m q:Nat) (h1:-5000≤n) (h2:n≤5000) (hm:(m:Int)=if n<0 then 0 else n) (hq:q=(m+63) / 64) (w:World):Calls Tryz.prog 87 #[.int .i64 n] w fun e w'=>e=.returned (.pointer (some ⟨w.heap.size+1,0,none⟩))∧w'=newW w m q:=by
 have hmk:∀ W:World,(Instr.makeSlice 146 (.int .i64 q) (.int .i64 q)).run Tryz.prog W=.ok (.slice (some ⟨W.heap.size,0,none⟩) q q) (W.alloc (.cells (madeCells #[.int .u64 0] q) 45)):=fun W=>run_make_row' _ _ _ 8 Tryz.underlying146 info_u64' rfl .i64 .i64 q (by omega) (by omega) W
 by_cases hn:n<0
 ·rw [if_pos hn] at hm
  have h0:m=0:=by omega
  subst h0
  have h3:q=0:=by omega
  subst h3
  have hmk0:∀ W:World,(Instr.makeSlice 146 (.int .i64 0) (.int .i64 0)).run Tryz.prog W=.ok (.slice (some ⟨W.heap.size,0,none⟩) 0 0) (W.alloc (.cells (madeCells #[.int .u64 0] 0) 45)):=hmk
  clear hm hq hmk
  go_enter Tryz.func87,Tryz.ntmps87
  go_wp2
  go_ret
  exact ⟨rfl,rfl⟩
 ·rw [if_neg hn] at hm
  subst hm
  have gq:((m:Int)+64-1) / 64=(q:Int):=by omega
  clear hq hn
  go_enter Tryz.func87,Tryz.ntmps87
  go_wp2
  go_ret
  exact ⟨rfl,rfl⟩
theorem i64_wrap_small {k:Nat} (h:k≤1000000):IntKind.i64.wrap (k:Int)=(k:Int):=by
 rw [IntKind.wrap_i64]
 omega
theorem has_nil (i:Int) (w:World):Calls Tryz.prog 102 #[.pointer none,.int .i64 i] w fun e w'=>e=.returned (.bool false)∧∃ nq,w'=w.drewN nq:=by
 go_enter Tryz.func102,Tryz.ntmps102
 go_wp2
 go_quiet ((go_at_call 101;exact Calls.quiet_of_same (takes_nil _ _)))
 go_wp2
 go_ret
 exact ⟨rfl,nq,rfl⟩
theorem has_no (p:Nat) (i n:Int) (w:World) (h0:w.cell? ⟨p,0,none⟩=some (.int .i64 n)) (h1:i<0∨n≤i):Calls Tryz.prog 102 #[.pointer (some ⟨p,0,none⟩),.int .i64 i] w fun e w'=>e=.returned (.bool false)∧∃ nq,w'=w.drewN nq:=by
 have H1:=Lib.hid h1
 clear h1
 go_enter Tryz.func102,Tryz.ntmps102
 go_wp2
 go_quiet ((go_at_call 101;exact Calls.quiet_of_same (takes_no p i n _ h0 H1.out)))
 go_wp2
 go_ret
 exact ⟨rfl,nq,rfl⟩
theorem has_at (p b m q j c k:Nat) (v:Int) (r:Bool) (w:World) (h0:w.cell? ⟨p,0,none⟩=some (.int .i64 m)) (h1:w.cell? ⟨p,1,none⟩=some (.slice (some ⟨b,0,none⟩) q q)) (h2:w.cell? ⟨b,k,none⟩=some (.int .u64 v))
  (hm:m≤5000) (hj:j<m) (hc:c=j % 64) (hk:k=j / 64) (hkq:k<q) (hr:(bits BinOp.and IntKind.u64 v ((2 ^ c:Nat):Int) != 0)=r) :
  Calls Tryz.prog 102 #[.pointer (some ⟨p,0,none⟩),.int .i64 j] w fun e w'=>e=.returned (.bool r)∧∃ nq,w'=w.drewN nq:=by
 have hb:=Lib.hid (show ((j:Int).tmod 64=(c:Int)) by rw [Int.tmod_eq_emod_of_nonneg (by omega)];omega)
 have HJ:=Lib.hid hj
 have gk:(j:Int) / 64=(k:Int):=by omega
 have gw:IntKind.i64.wrap (k:Int)=(k:Int):=i64_wrap_small (by omega)
 obtain ⟨B,hB⟩:∃ B:Int,B=((2 ^ c:Nat):Int):=⟨_,rfl⟩
 rw [← hB] at hr
 have HBIT:=Lib.hid (fun W=>bit_any j c hb.out (by omega) W)
 rw [← hB] at HBIT
 clear hc hk hj hB
 go_enter Tryz.func102,Tryz.ntmps102
 go_wp2
 go_quiet (first
  | (go_at_call 101;exact Calls.quiet_of_same (takes_yes p j m _ h0 (Int.natCast_nonneg _) (by have:=HJ.out;omega)))
  | (go_at_call 103;exact Calls.quiet_of_same (HBIT.out _)))
 go_wp2
 go_ret
 exact ⟨rfl,nq,rfl⟩
theorem getD_lt {ws:List Nat} (h:∀ x ∈ ws,x<18446744073709551616) (k:Nat):ws.getD k 0<18446744073709551616:=by
 rw [List.getD_eq_getElem?_getD]
 rcases e:ws[k]? with _ | y
 ·simp
 ·simpa using h y (List.mem_of_getElem? e)
theorem and_bit (v c:Nat) (hv:v<18446744073709551616) (hc:c<64):(bits BinOp.and IntKind.u64 (v:Int) ((2 ^ c:Nat):Int) != 0)=v.testBit c:=by
 rw [u64_and_nat v _ hv (pow_lt64 hc)]
 have e:v &&& 2 ^ c=if v.testBit c=true then 2 ^ c else 0:=by
  apply Nat.eq_of_testBit_eq
  intro i
  rw [Nat.testBit_and,Nat.testBit_two_pow]
  by_cases h:c=i
  ·subst h
   rcases h2:v.testBit c with _ | _ <;> simp [Nat.testBit_two_pow]
  ·rcases h2:v.testBit c with _ | _ <;> simp [h,Nat.testBit_two_pow]
 rw [e]
 have hp:0<2 ^ c:=Nat.pow_pos (by decide)
 rcases h2:v.testBit c with _ | _
 ·simp
 ·have h3:((2 ^ c:Nat):Int)≠0:=by omega
  rw [if_pos rfl]
  exact bne_iff_ne.2 h3
theorem ladd_there (p b m q j:Nat) (ws:List Nat) (w:World) (hp:Blk w p 154 #[.int .i64 m,.slice (some ⟨b,0,none⟩) q q]) (hw:Blk w b 45 (u64n ws).toArray) (hl:ws.length=q) (hlt:∀ x ∈ ws,x<18446744073709551616)
  (hm:m≤5000) (hj:j<m) (hq:m≤64*q) (hr:hasW ws j=true) :
  Calls Tryz.prog 86 #[.pointer (some ⟨p,0,none⟩),.int .i64 j] w fun e w'=>e=.returned (.bool false)∧∃ nq,w'=w.drewN nq:=by
 have h0:w.cell? ⟨p,0,none⟩=some (.int .i64 m):=hp.cell 0
 have h1:w.cell? ⟨p,1,none⟩=some (.slice (some ⟨b,0,none⟩) q q):=hp.cell 1
 have h2:w.cell? ⟨b,j / 64,none⟩=some (.int .u64 ((ws.getD (j / 64) 0:Nat):Int)):=by
  rw [hw.cell,List.getElem?_toArray]
  exact u64n_at (by omega)
 have HT:=Lib.hid (takes_yes p j m w h0 (Int.natCast_nonneg _) (by omega))
 have HH:=Lib.hid (has_at p b m q j (j % 64) (j / 64) _ true w h0 h1 h2 hm hj rfl rfl (by omega) (by rw [and_bit _ _ (getD_lt hlt _) (Nat.mod_lt _ (by decide))];exact hr))
 clear h0 h1 h2 hm hj hp hw hl hlt hr hq
 go_enter Tryz.func86,Tryz.ntmps86
 go_wp2_with (first
  | (go_at_call 101;refine HT.out.mono ?_;rintro e w1 ⟨rfl,rfl⟩)
  | (go_at_call 102;refine HH.out.mono ?_;rintro e w1 ⟨rfl,nq,rfl⟩))
 go_ret
 exact ⟨rfl,nq,rfl⟩
theorem ladd_new (p b m q j:Nat) (ws:List Nat) (w:World) (hp:Blk w p 154 #[.int .i64 m,.slice (some ⟨b,0,none⟩) q q]) (hw:Blk w b 45 (u64n ws).toArray) (hl:ws.length=q) (hlt:∀ x ∈ ws,x<18446744073709551616)
  (hm:m≤5000) (hj:j<m) (hq:m≤64*q) (hr:hasW ws j=false) :
  Calls Tryz.prog 86 #[.pointer (some ⟨p,0,none⟩),.int .i64 j] w fun e w'=>e=.returned (.bool true)∧∃ nq,w'=(w.setCell ⟨b,j / 64,none⟩ (.int .u64 (((addW ws j).getD (j / 64) 0:Nat):Int))).drewN nq:=by
 have hkq:j / 64<q:=by omega
 have h0:w.cell? ⟨p,0,none⟩=some (.int .i64 m):=hp.cell 0
 have h1:w.cell? ⟨p,1,none⟩=some (.slice (some ⟨b,0,none⟩) q q):=hp.cell 1
 have h2:w.cell? ⟨b,j / 64,none⟩=some (.int .u64 ((ws.getD (j / 64) 0:Nat):Int)):=by
  rw [hw.cell,List.getElem?_toArray]
  exact u64n_at (by omega)
 have f2:w.frozen? ⟨b,j / 64,none⟩=false:=hw.frozen _
 have hlt2:(2:Nat) ^ (j % 64)<18446744073709551616:=pow_lt64 (Nat.mod_lt _ (by decide))
 have HT:=Lib.hid (takes_yes p j m w h0 (Int.natCast_nonneg _) (by omega))
 have HH:=Lib.hid (has_at p b m q j (j % 64) (j / 64) _ false w h0 h1 h2 hm hj rfl rfl hkq (by rw [and_bit _ _ (getD_lt hlt _) (Nat.mod_lt _ (by decide))];exact hr))
 have hb:=Lib.hid (show ((j:Int).tmod 64=((j % 64:Nat):Int)) by rw [Int.tmod_eq_emod_of_nonneg (by omega)];omega)
 have HBIT:=Lib.hid (fun W=>bit_any j (j % 64) hb.out (Nat.mod_lt _ (by decide)) W)
 have hor:bits BinOp.or IntKind.u64 ((ws.getD (j / 64) 0:Nat):Int) ((2 ^ (j % 64):Nat):Int)=(((addW ws j).getD (j / 64) 0:Nat):Int):=by
  rw [u64_or_nat _ _ (getD_lt hlt _) hlt2]
  congr 1
  unfold addW
  rw [List.getD_eq_getElem?_getD (l:=List.set _ _ _),List.getElem?_set,if_pos rfl,if_pos (by omega),Option.getD_some]
 obtain ⟨k,hk⟩:∃ k:Nat,k=j / 64:=⟨_,rfl⟩
 have gk:(j:Int) / 64=(k:Int):=by omega
 have gw:IntKind.i64.wrap (k:Int)=(k:Int):=i64_wrap_small (by omega)
 obtain ⟨B,hB⟩:∃ B:Int,B=((2 ^ (j % 64):Nat):Int):=⟨_,rfl⟩
 obtain ⟨V,hV⟩:∃ V:Int,V=((ws.getD (j / 64) 0:Nat):Int):=⟨_,rfl⟩
 obtain ⟨V2,hV2⟩:∃ V2:Int,V2=(((addW ws j).getD (j / 64) 0:Nat):Int):=⟨_,rfl⟩
 rw [← hB] at HBIT hor
 rw [← hV] at hor h2
 rw [← hV2] at hor ⊢
 rw [← hk] at h2 f2 hkq ⊢
 clear hk hj hB hp hw hlt hm hlt2 hr hl hV hV2 hq
 go_enter Tryz.func86,Tryz.ntmps86
 go_wp2_with (first
  | (go_at_call 101;refine HT.out.mono ?_;rintro e w1 ⟨rfl,rfl⟩)
  | (go_at_call 102;refine HH.out.mono ?_;rintro e w1 ⟨rfl,nq,rfl⟩))
 go_region_law (go_simp;go_at_call 103;refine (HBIT.out _).mono ?_;rintro e w1 ⟨rfl,rfl⟩)
 all_goals
  go_wp2
  go_ret
  exact ⟨rfl,nq+1,rfl⟩
theorem lall_some (p:Nat) (A:Option Addr) (q c:Nat) (w:World) (h1:w.cell? ⟨p,1,none⟩=some (.slice A q c)):Calls Tryz.prog 84 #[.pointer (some ⟨p,0,none⟩)] w fun e w'=>e=.returned (.slice A q c)∧w'=w:=by
 go_enter Tryz.func84,Tryz.ntmps84
 go_wp2
 go_ret
 exact ⟨rfl,rfl⟩
theorem and_127 (y:Int):∃ r:Nat,r≤127∧bits BinOp.and IntKind.i64 y 127=(r:Int):=by
 refine ⟨(BitVec.ofInt 64 y &&& BitVec.ofInt 64 127).toNat,?_,?_⟩
 ·rw [BitVec.toNat_and]
  exact Nat.and_le_right
 ·have h:(BitVec.ofInt 64 y &&& BitVec.ofInt 64 127).toNat≤127:=by
   rw [BitVec.toNat_and]
   exact Nat.and_le_right
  show IntKind.i64.wrap ((BitVec.ofInt 64 y &&& BitVec.ofInt 64 127).toNat:Int)=_
  rw [IntKind.wrap_i64]
  omega
theorem ones_le (x:Int) (w:World):Calls Tryz.prog 100 #[.int .u64 x] w fun e w'=>∃ r:Nat,r≤127∧e=.returned (.int .i64 r)∧w'=w:=by
 go_enter Tryz.func100,Tryz.ntmps100
 go_wp2
 go_ret
 obtain ⟨r,h1,h2⟩:=and_127 _
 exact ⟨r,h1,congrArg Ending.returned (congrArg (Value.int IntKind.i64) h2),rfl⟩
theorem llen_any (p b q:Nat) (ws:List Nat) (w:World) (h1:w.cell? ⟨p,1,none⟩=some (.slice (some ⟨b,0,none⟩) q q)) (hw:Blk w b 45 (u64n ws).toArray) (hl:ws.length=q) (hq:q≤16):Calls Tryz.prog 83 #[.pointer (some ⟨p,0,none⟩)] w fun e w'=>∃ r:Nat,r≤2032∧e=.returned (.int .i64 r)∧w'=w:=by
 have HA:=Lib.hid (lall_some p _ _ _ w h1)
 have HW:=Lib.hid hw
 have HL:=Lib.hid hl
 clear h1 hw hl
 go_enter Tryz.func83,Tryz.ntmps83
 go_wp2_with (go_at_call 84;refine HA.out.mono ?_;rintro e w1 ⟨rfl,hw1⟩;rw [hw1];clear hw1)
 go_loopw [3,9] (fun v i wr=>∃ k r:Nat,k≤q∧r≤127*k∧v=.int .i64 r∧i=.int .i64 k∧wr=w) (fun _ i _=>q-(intOf i).toNat)
 case atStart=>exact ⟨0,0,by omega,by omega,rfl,rfl,rfl⟩
 case round =>
  obtain ⟨k,r,hk,hr,rfl,rfl,hwr⟩:=hrel
  rw [hwr]
  clear hwr
  by_cases hlt:k<q
  ·have hx:w.cell? ⟨b,k,none⟩=some (.int .u64 ((ws.getD k 0:Nat):Int)):=by
    rw [HW.out.cell,List.getElem?_toArray]
    exact u64n_at (by rw [HL.out];exact hlt)
   obtain ⟨V,hV⟩:∃ V:Int,V=((ws.getD k 0:Nat):Int):=⟨_,rfl⟩
   rw [← hV] at hx
   clear hV
   go_wp2_with (go_at_call 100;refine (ones_le _ _).mono ?_;rintro e w2 ⟨r2,hr2,rfl,rfl⟩)
   go_roundw
   case rel=>exact ⟨k+1,r+r2,by omega,by omega,by go_num,by go_num,by first | rfl | trivial⟩
   case measure=>simp [intOf];omega
  ·go_wp2
   go_ret
   exact ⟨r,by omega,rfl,rfl⟩
def TzTab (w:World):Prop:=∀ j,j<64→w.cell? ⟨0,j,none⟩=some (.int .u8 ((Lib.deBruijn64tab.getD j 0:Nat):Int))
theorem cell_lt {w:World} {g j:Nat} {v:Value} (h:w.cell? ⟨g,j,none⟩=some v):g<w.heap.size:=by
 rcases Nat.lt_or_ge g w.heap.size with h1 | h1
 ·exact h1
 ·have:w.heap[g]?=none:=Array.getElem?_eq_none h1
  simp [World.cell?,this] at h
theorem TzTab.below {w w':World} (h:TzTab w) (hb:Below w.heap.size w w'):TzTab w':=fun j hj=>(hb.cell (p:=⟨_,j,none⟩) (cell_lt (h j hj))).trans (h j hj)
theorem ltz_key (x a:Nat) (hx:x<18446744073709551616) (hx0:x≠0) (hlow:x &&& (18446744073709551616-x)=a) :
  IntKind.u64.wrap (bits BinOp.and IntKind.u64 (x:Int) (IntKind.u64.wrap (-(x:Int)))*285870213051353865) / 288230376151711744=((a*285870213051353865 % 18446744073709551616 / 288230376151711744:Nat):Int):=by
 have e1:IntKind.u64.wrap (-(x:Int))=((18446744073709551616-x:Nat):Int):=by rw [IntKind.wrap_u64];omega
 rw [e1,u64_and_nat x _ hx (by omega),hlow,IntKind.wrap_u64]
 omega
theorem ltz_core (x k idx:Nat) (w:World) (hx0:((x:Int) == 0)=false)
  (key:IntKind.u64.wrap (bits BinOp.and IntKind.u64 (x:Int) (IntKind.u64.wrap (-(x:Int)))*285870213051353865) / 288230376151711744=(idx:Int))
  (hi:idx<64) (hk:k<64) (hcell:w.cell? ⟨0,idx,none⟩=some (.int .u8 k)) :
  Calls Tryz.prog 85 #[.int .u64 x] w fun e w'=>e=.returned (.int .i64 k)∧w'=w:=by
 go_enter Tryz.func85,Tryz.ntmps85
 go_wp2_with (simp only [key])
 go_ret
 exact ⟨rfl,rfl⟩
theorem ltz_any (x:Nat) (w:World) (hx0:x≠0) (hx:x<18446744073709551616) (hT:TzTab w):Calls Tryz.prog 85 #[.int .u64 x] w fun e w'=>e=.returned (.int .i64 (Lib.ctz 64 x))∧w'=w:=by
 obtain ⟨hlow,hk⟩:=Lib.lowest_bit 64 x hx0 hx
 obtain ⟨hi,htab⟩:=Lib.deBruijn64_at _ hk
 have hcell:=hT _ hi
 rw [htab] at hcell
 exact ltz_core x _ _ w (by simp;omega) (ltz_key x _ hx hx0 hlow) hi hk hcell
theorem lmake_room (r:Nat) (hr:r≤5000) (W:World):(Instr.makeSlice 26 (.int .i64 0) (.int .i64 r)).run Tryz.prog W=.ok (.slice (some ⟨W.heap.size,0,none⟩) 0 r) (W.alloc (.cells (madeCells #[.int .i64 0] r) 3)):=by
 obtain ⟨i0,hi,hz0,hz1,hz2⟩:=info_parts Tryz.info3
 have h:=run_make (P:=Tryz.prog) W 26 3 i0 (.int .i64 0) Tryz.underlying26 hi hz0 .i64 .i64 0 r (by omega) (by omega) (by rw [hz2];omega) (by omega)
 simpa [hz1,Value.cells] using h
theorem mul64 {k:Nat} (c:Nat):(k:Int)*64+(c:Int)=((64*k+c:Nat):Int):=by omega
theorem llist_any (p b q:Nat) (ws:List Nat) (w:World) (h1:w.cell? ⟨p,1,none⟩=some (.slice (some ⟨b,0,none⟩) q q)) (hw:Blk w b 45 (u64n ws).toArray) (hl:ws.length=q) (hlt:∀ x ∈ ws,x<18446744073709551616) (hq:q≤16) (hT:TzTab w) :
  Calls Tryz.prog 64 #[.pointer (some ⟨p,0,none⟩)] w fun e w'=>∃ A c,e=.returned (.slice A (listK ws q).length c)∧w'.ownsRow w.heap.size 3 1 (.slice A (listK ws q).length c) (listK ws q).length (i64c (listK ws q))∧Below w.heap.size w w':=by
 have HLE:=Lib.hid (llen_any p b q ws w h1 hw hl hq)
 have HA:Hid (∀ o,Calls Tryz.prog 84 #[.pointer (some ⟨p,0,none⟩)] (w.alloc o) fun e w'=>e=.returned (.slice (some ⟨b,0,none⟩) q q)∧w'=w.alloc o):=Lib.hid fun o=>lall_some p _ _ _ _ ((World.cell?_alloc_lt w o ⟨p,1,none⟩ (cell_lt h1)).trans h1)
 have HW:=Lib.hid hw
 have HL:=Lib.hid hl
 have HLT:=Lib.hid hlt
 have HT:=Lib.hid hT
 clear h1 hw hl hlt hT
 go_enter Tryz.func64,Tryz.ntmps64
 go_upto_region 1 with fail
 go_wp2_with (first
  | (go_at_call 83;go_loud (refine HLE.out.mono ?_);rintro e w1 ⟨r,hr,rfl,hw1⟩;rw [hw1];clear hw1;go_loud (have hmk:=lmake_room r (by omega) w);go_loud (have hme:Hid ((w.alloc (.cells (madeCells #[.int .i64 0] r) 3)).ownsRow w.heap.size 3 1 (.slice (some ⟨w.heap.size,0,none⟩) 0 r) 0 []):=Lib.hid (World.ownsRow_made w _ r (Nat.le_refl _) (by unfold maxLen;omega) (by simp [size_madeCells]))))
  | (go_at_call 84;refine (HA.out _).mono ?_;rintro e w2 ⟨rfl,hw2⟩;rw [hw2];clear hw2))
 go_loopw [3,12] (fun v i wr=>∃ k:Nat,k≤q∧i=.int .i64 k∧Hid (wr.ownsRow w.heap.size 3 1 v (listK ws k).length (i64c (listK ws k)))∧Hid (Below w.heap.size w wr)) (fun _ i _=>q-(intOf i).toNat)
 case atStart=>exact ⟨0,by omega,rfl,hme,Lib.hid ((Below.refl _ _).alloc (Nat.le_refl _) _)⟩
 case round =>
  obtain ⟨k,hk,rfl,HO,HB⟩:=hrel
  obtain ⟨A,c,rfl⟩:=own_slice HO.out
  by_cases hlt:k<q
  ·have hb:Blk wr b 45 (u64n ws).toArray:=HW.out.below HB.out HW.out.lt
   have hx:wr.cell? ⟨b,k,none⟩=some (.int .u64 ((ws.getD k 0:Nat):Int)):=by
    rw [hb.cell,List.getElem?_toArray]
    exact u64n_at (by rw [HL.out];exact hlt)
   have HVL:=Lib.hid (getD_lt HLT.out k)
   have HS:=Lib.hid (listK_succ ws k)
   have HLK:=Lib.hid (listK_len ws k)
   obtain ⟨V,hV⟩:∃ V:Nat,V=ws.getD k 0:=⟨_,rfl⟩
   rw [← hV] at hx HVL HS
   clear hV hb
   obtain ⟨wo,hwo⟩:∃ wo,wo=wr:=⟨_,rfl⟩
   rw [← hwo] at HO HB hx ⊢
   clear hwo
   go_wp2
   go_loopw [3,5] (fun v x wr=>∃ (X t:Nat),x=.int .u64 X∧Hid (RestW V X t)∧Hid (wr.ownsRow w.heap.size 3 1 v ((listK ws k).length+(bitsL V t).length) (i64c (listK ws k ++ (bitsL V t).map fun (c:Nat)=>((64*k+c:Nat):Int))))∧Hid (Below w.heap.size w wr)) (fun _ x _=>(intOf x).toNat)
   case atStart=>exact ⟨V,0,rfl,Lib.hid (RestW.start V),by simpa [bitsL] using HO,HB⟩
   case round =>
    obtain ⟨X,t,rfl,HR,HOi,HBi⟩:=hrel
    obtain ⟨A2,c2,rfl⟩:=own_slice HOi.out
    have hXl:=HR.out.lt HVL.out
    by_cases hX:X=0
    ·subst hX
     have HD:=Lib.hid (HR.out.done HVL.out)
     go_wp2
     go_roundw
     case rel =>
      refine ⟨k+1,by omega,by go_num,?_,HBi⟩
      rw [HS.out,HD.out,List.length_append,List.length_map]
      exact HOi
     case measure=>simp [intOf];omega
    ·have gx:((X:Int) != 0)=true:=bne_iff_ne.2 (by omega)
     have gs:IntKind.u64.wrap ((X:Int)-1)=((X-1:Nat):Int):=by
      rw [IntKind.wrap_u64]
      omega
     have ga:bits BinOp.and IntKind.u64 (X:Int) ((X-1:Nat):Int)=((X &&& (X-1):Nat):Int):=u64_and_nat _ _ hXl (by omega)
     have HST:=Lib.hid (HR.out.step hX hXl)
     have HZ:Hid (∀ W,Below w.heap.size w W→Calls Tryz.prog 85 #[.int .u64 X] W fun e w'=>e=.returned (.int .i64 (Lib.ctz 64 X))∧w'=W):=Lib.hid fun W hb=>ltz_any X W hX hXl (HT.out.below hb)
     obtain ⟨m,hm⟩:∃ m,m=Lib.ctz 64 X:=⟨_,rfl⟩
     rw [← hm] at HZ HST
     have hmb:m<64:=by rw [hm];exact (ctz_spec X hX hXl).choose_spec.2
     have HLT2:=Lib.hid (low_lt X hX)
     have hbl:=bitsL_len V t
     have ht:=HR.out.1
     have hlk:=HLK.out
     have g2:=mul64 (k:=k) m
     obtain ⟨K,hK⟩:∃ K:Int,K=((64*k+m:Nat):Int):=⟨_,rfl⟩
     rw [← hK] at g2
     have HK:=Lib.hid hK
     obtain ⟨Y,hY⟩:∃ Y:Nat,Y=X &&& (X-1):=⟨_,rfl⟩
     rw [← hY] at HST HLT2 ga
     clear hm hK hY hX hXl HR
     go_wp2_with (first
      | (go_at_call 85;refine (HZ.out _ HBi.out).mono ?_;rintro e w3 ⟨rfl,hw3⟩;rw [hw3];clear hw3)
      | (at_builtin;refine app_int rfl (.tmp 23) (.tmp 29) rfl w.heap.size _ _ _ rfl (own_alloc HOi.out _) (wr.heap.size+1) (some ⟨wr.heap.size,0,none⟩) 1 1 [.int .i64 K] rfl (one_reads wr _ _ 1 rfl) (ints_oneCell .i64 [K]) (by omega) (by have:=HBi.out.size;simp;omega) ?_;intro v' w4 hown hgr hor;have HO4:=Lib.hid hown;have HB4:Hid (Below w.heap.size w w4):=Lib.hid ((HBi.out.alloc HBi.out.size _).grown hgr (by have:=HBi.out.size;simp;omega) fun g hg=>(own_block_le HOi.out hg).1);clear hown hgr hor))
     go_roundw
     case rel =>
      refine ⟨Y,m+1,rfl,Lib.hid HST.out.1,?_,HB4⟩
      have h:=HO4.out
      rw [HST.out.2,List.length_append,List.map_append]
      rw [HK.out] at h
      simp only [List.length_singleton,List.map_cons,List.map_nil]
      rw [← List.append_assoc,i64c_append]
      exact Lib.hid h
     case measure =>
      have:=HLT2.out
      simp [intOf]
      omega
  ·obtain rfl:k=q:=by omega
   go_wp2
   go_ret
   exact ⟨A,c,rfl,HO.out,HB.out⟩
structure KpB (w w':World) (b:Nat):Prop where
 os:w'.os=w.os
 tape:w'.tape=w.tape
 output:w'.output=w.output
 size:w.heap.size≤w'.heap.size
 block:∀ i,i<w.heap.size→i≠b→w'.heap[i]?=w.heap[i]?
theorem KpB.refl (w:World) (b:Nat):KpB w w b:=⟨rfl,rfl,rfl,Nat.le_refl _,fun _ _ _=>rfl⟩
theorem KpB.drewN {w w':World} {b:Nat} (h:KpB w w' b) (n:Nat):KpB w (w'.drewN n) b:=⟨h.os,h.tape,h.output,h.size,h.block⟩
theorem KpB.set {w w':World} {b:Nat} (h:KpB w w' b) (k:Nat) (u:Value):KpB w (w'.setCell ⟨b,k,none⟩ u) b :=
 ⟨h.os,h.tape,h.output,by simpa [World.setCell] using h.size,fun i hi hne=>(Below.heap_setCell w' ⟨b,k,none⟩ u i hne).trans (h.block i hi hne)⟩
theorem KpB.blk {w w':World} {b g:Nat} {t:TypeId} {cs:Array Value} (h:KpB w w' b) (hb:Blk w g t cs) (hne:g≠b):Blk w' g t cs:=(h.block g hb.lt hne).trans hb
theorem KpB.out {w w':World} {b:Nat} (h:KpB w w' b) (B:Nat) (hB:B≤w.heap.size) (hb:B≤b):Below B w w':=⟨h.os,h.tape,h.output,h.size,fun i hi=>h.block i (by omega) (by omega)⟩
theorem shl_below (s:Nat) (h:s≤64):IntKind.u64.wrap (IntKind.u64.wrap ((2:Int) ^ s)-1)=((2 ^ s-1:Nat):Int):=by
 rw [pow_int,wrap_u64_eq,wrap_u64_eq]
 have hp:0<2 ^ s:=Nat.pow_pos (by decide)
 have hle:2 ^ s≤2 ^ 64:=Nat.pow_le_pow_right (by decide) h
 by_cases e:s=64
 ·subst e
  decide
 ·have hlt:2 ^ s<2 ^ 64:=Nat.pow_lt_pow_right (by decide) (by omega)
  omega
theorem below_any (p k m:Nat) (s:Nat) (w:World) (h0:w.cell? ⟨p,0,none⟩=some (.int .i64 m)) (hk:64*k<m) (hm:m≤1024) (hs:s=min (m-64*k) 64):Calls Tryz.prog 90 #[.pointer (some ⟨p,0,none⟩),.int .i64 k] w fun e w'=>e=.returned (.int .u64 ((2 ^ s-1:Nat):Int))∧w'=w:=by
 have hsb:=shl_below s (by omega)
 have hms:min (m-64*k) 64=s:=hs.symm
 obtain ⟨c,hc⟩:∃ c:Nat,c=m-64*k:=⟨_,rfl⟩
 rw [← hc] at hms
 have g1:(m:Int)-(k:Int)*64=(c:Int):=by omega
 have g0:decide ((c:Int)<0)=false:=by simp
 clear hs hc
 go_enter Tryz.func90,Tryz.ntmps90
 go_wp2
 go_ret
 refine ⟨?_,rfl⟩
 simp [hms]
 try exact hsb
theorem shared_any (p1 b1 p2 b2 q:Nat) (w:World) (h1:w.cell? ⟨p1,1,none⟩=some (.slice (some ⟨b1,0,none⟩) q q)) (h2:w.cell? ⟨p2,1,none⟩=some (.slice (some ⟨b2,0,none⟩) q q)) (hq:q≤16) :
  Calls Tryz.prog 89 #[.pointer (some ⟨p1,0,none⟩),.pointer (some ⟨p2,0,none⟩)] w fun e w'=>e=.returned (.slice (some ⟨b2,0,none⟩) q q)∧w'=w:=by
 have HA:=Lib.hid (lall_some p1 _ _ _ w h1)
 have HB:=Lib.hid (lall_some p2 _ _ _ w h2)
 clear h1 h2
 go_enter Tryz.func89,Tryz.ntmps89
 go_wp2_with (first
  | (go_at_call 84;with_reducible refine HA.out.mono ?_;rintro e w1 ⟨rfl,hw1⟩;rw [hw1];clear hw1)
  | (go_at_call 84;with_reducible refine HB.out.mono ?_;rintro e w1 ⟨rfl,hw1⟩;rw [hw1];clear hw1))
 go_ret
 exact ⟨rfl,rfl⟩
theorem lor_any (p1 b1 p2 b2 m q:Nat) (ws vs:List Nat) (w:World) (hp1:Blk w p1 154 #[.int .i64 m,.slice (some ⟨b1,0,none⟩) q q]) (hw1:Blk w b1 45 (u64n ws).toArray) (hp2:Blk w p2 154 #[.int .i64 m,.slice (some ⟨b2,0,none⟩) q q]) (hw2:Blk w b2 45 (u64n vs).toArray)
  (hl1:ws.length=q) (hl2:vs.length=q) (hlt1:∀ x ∈ ws,x<18446744073709551616) (hlt2:∀ x ∈ vs,x<18446744073709551616) (hm:m≤1024) (hq:q=(m+63) / 64) (hmost:∀ j,hasW vs j=true→j<m) (hne:b2≠b1) :
  Calls Tryz.prog 70 #[.pointer (some ⟨p1,0,none⟩),.pointer (some ⟨p2,0,none⟩)] w fun e w'=>(∃ bo,e=.returned (.bool bo))∧Blk w' b1 45 (u64n (orK ws vs q)).toArray∧KpB w w' b1:=by
 have HSH:=Lib.hid (shared_any p1 b1 p2 b2 q w (hp1.cell 1) (hp2.cell 1) (by omega))
 have HP1:=Lib.hid hp1
 have HW1:=Lib.hid hw1
 have HW2:=Lib.hid hw2
 have HL1:=Lib.hid hl1
 have HL2:=Lib.hid hl2
 have HLT1:=Lib.hid hlt1
 have HLT2:=Lib.hid hlt2
 have HM:=Lib.hid hmost
 have HQ:=Lib.hid hq
 have HPB:Hid (p1≠b1):=Lib.hid (Blk.ne_ hp1 hw1 (by decide))
 have HNE:=Lib.hid hne
 have hq16:q≤16:=by omega
 clear hp1 hw1 hp2 hw2 hl1 hl2 hlt1 hlt2 hmost hq hne
 go_enter Tryz.func70,Tryz.ntmps70
 go_wp2_with (go_at_call 89;refine HSH.out.mono ?_;rintro e w1 ⟨rfl,hw1⟩;rw [hw1];clear hw1)
 go_loopw [5,13] (fun v i wr=>∃ (k:Nat) (bo:Bool),k≤q∧v=.bool bo∧i=.int .i64 k∧Hid (Blk wr b1 45 (u64n (orK ws vs k)).toArray)∧Hid (KpB w wr b1)) (fun _ i _=>q-(intOf i).toNat)
 case atStart=>exact ⟨0,false,by omega,rfl,rfl,by rw [orK_zero];exact HW1,Lib.hid (KpB.refl w b1)⟩
 case round =>
  obtain ⟨k,bo,hk,rfl,rfl,HW,HK⟩:=hrel
  by_cases hlt:k<q
  ·have hkm:64*k<m:=by have:=HQ.out;omega
   obtain ⟨T,hT⟩:∃ T:Nat,T=vs.getD k 0:=⟨_,rfl⟩
   obtain ⟨X,hX⟩:∃ X:Nat,X=ws.getD k 0:=⟨_,rfl⟩
   have hTl:T<18446744073709551616:=by rw [hT];exact getD_lt HLT2.out k
   have hXl:X<18446744073709551616:=by rw [hX];exact getD_lt HLT1.out k
   have hXk:(orK ws vs k).getD k 0=X:=by rw [orK_at,if_neg (fun h=>by omega),hX]
   have x2:wr.cell? ⟨b2,k,none⟩=some (.int .u64 T):=by
    rw [(HK.out.blk HW2.out HNE.out).cell,List.getElem?_toArray,hT]
    exact u64n_at (by rw [HL2.out];exact hlt)
   have x1:wr.cell? ⟨b1,k,none⟩=some (.int .u64 X):=by
    rw [HW.out.cell,List.getElem?_toArray,← hXk]
    exact u64n_at (by rw [orK_len,HL1.out];exact hlt)
   have c0:wr.cell? ⟨p1,1,none⟩=some (.slice (some ⟨b1,0,none⟩) q q):=(HK.out.blk HP1.out HPB.out).cell 1
   have c9:wr.cell? ⟨p1,0,none⟩=some (.int .i64 m):=(HK.out.blk HP1.out HPB.out).cell 0
   have f1:wr.frozen? ⟨b1,k,none⟩=false:=HW.out.frozen k
   obtain ⟨s,hs⟩:∃ s,s=min (m-64*k) 64:=⟨_,rfl⟩
   have HBE:=Lib.hid (fun W (h:W.cell? ⟨p1,0,none⟩=some (.int .i64 m))=>below_any p1 k m s W h hkm hm hs)
   obtain ⟨D,hD⟩:∃ D:Nat,D=2 ^ s-1:=⟨_,rfl⟩
   rw [← hD] at HBE
   have hDl:D<18446744073709551616:=by
    have:2 ^ s≤2 ^ 64:=Nat.pow_le_pow_right (by decide) (by omega)
    omega
   obtain ⟨Y,hY⟩:∃ Y:Nat,Y=T &&& (18446744073709551615-X):=⟨_,rfl⟩
   have hYl:Y<18446744073709551616:=by rw [hY];exact Nat.lt_of_le_of_lt Nat.and_le_left hTl
   have ga:bits BinOp.andNot IntKind.u64 (T:Int) (X:Int)=(Y:Int):=by rw [u64_andNot_nat _ _ hTl hXl,hY]
   obtain ⟨Z,hZ⟩:∃ Z:Nat,Z=Y &&& D:=⟨_,rfl⟩
   have hZl:Z<18446744073709551616:=by rw [hZ];exact Nat.lt_of_le_of_lt Nat.and_le_left hYl
   have gb:bits BinOp.and IntKind.u64 (Y:Int) (D:Int)=(Z:Int):=by rw [u64_and_nat _ _ hYl hDl,hZ]
   obtain ⟨V,hV⟩:∃ V:Nat,V=X ||| T:=⟨_,rfl⟩
   have gor:bits BinOp.or IntKind.u64 (X:Int) (Z:Int)=(V:Int):=by
    rw [u64_or_nat _ _ hXl hZl,hZ,hY,hD,or_added X T s hXl hTl (fun i hi=>?_) (by omega),hV]
    have hi64:i<64:=by
     rcases Nat.lt_or_ge i 64 with h | h
     ·exact h
     ·rw [Nat.testBit_lt_two_pow (Nat.lt_of_lt_of_le (show T<2 ^ 64 from hTl) (Nat.pow_le_pow_right (by decide) h))] at hi
      cases hi
    have h2:=HM.out (64*k+i) (by
     unfold hasW
     rw [show (64*k+i) / 64=k by omega,show (64*k+i) % 64=i by omega,← hT]
     exact hi)
    omega
   obtain ⟨rz,hrz⟩:∃ rz:Bool,((Z:Int) != 0)=rz:=⟨_,rfl⟩
   have HSTEP:Hid (u64n (orK ws vs (k+1))=(u64n (orK ws vs k)).set k (.int .u64 (V:Int))):=Lib.hid (by
    rw [orK_succ ws vs k (by rw [HL1.out];exact hlt),u64n_set,← hT,← hX,← hV])
   clear hT hX hTl hXl hXk hkm hs hD hDl hY hYl hZ hZl hV
   cases bo
   ·go_wp2
    go_quiet ((go_at_call 90;exact Calls.quiet_of_same (HBE.out _ c9)))
    go_wp2
    go_roundw
    case rel =>
     refine ⟨k+1,rz,by omega,rfl,by go_num,?_,Lib.hid ((HK.out.drewN nq).set k _)⟩
     have h1:=(HW.out.drewN nq).set_ k (.int .u64 (V:Int))
     rw [List.setIfInBounds_toArray,← HSTEP.out] at h1
     exact Lib.hid h1
    case measure=>simp [intOf];omega
   ·go_wp2
    go_quiet ((go_at_call 90;exact Calls.quiet_of_same (HBE.out _ c9)))
    go_wp2
    go_roundw
    case rel =>
     refine ⟨k+1,true,by omega,rfl,by go_num,?_,Lib.hid ((HK.out.drewN nq).set k _)⟩
     have h1:=(HW.out.drewN nq).set_ k (.int .u64 (V:Int))
     rw [List.setIfInBounds_toArray,← HSTEP.out] at h1
     exact Lib.hid h1
    case measure=>simp [intOf];omega
  ·have hkq:k=q:=by omega
   rw [hkq] at HW
   go_wp2
   go_ret
   exact ⟨⟨bo,rfl⟩,HW.out,HK.out⟩
theorem info_pset:(Tryz.prog.info? 117).map (fun i=>(i.zero,i.size,i.bytes))=some (some (.pointer none),1,8):=by kernel_rfl
theorem info_sint:(Tryz.prog.info? 26).map (fun i=>(i.zero,i.size,i.bytes))=some (some (.slice none 0 0),1,24):=by kernel_rfl
theorem made_words (q:Nat):madeCells #[.int .u64 0] q=(u64n (List.replicate q 0)).toArray:=by
 apply Array.ext
 ·simp [madeCells,u64n]
 ·intro i h1 h2
  simp [madeCells,u64n,Nat.mod_one]
structure NewSI (W:World) (R n q m k:Nat) (cs:Array Value) (wr:World):Prop where
 gr:Blk wr W.heap.size 35 cs
 row:Blk wr R 117 (rowA n fun i=>if i<k then .pointer (some ⟨R+2+2*i,0,none⟩) else .pointer none)
 box:∀ i,i<k→Blk wr (R+2+2*i) 154 #[.int .i64 m,.slice (some ⟨R+1+2*i,0,none⟩) q q]
 words:∀ i,i<k→Blk wr (R+1+2*i) 45 (u64n (List.replicate q 0)).toArray
 size:wr.heap.size=R+1+2*k
 below:Below W.heap.size W wr
 at_:R=W.heap.size+1
section
variable {W wr:World} {R n q m k:Nat} {cs:Array Value}
theorem NewSI.start (W:World) (n q m:Nat) (cs:Array Value):NewSI W (W.heap.size+1) n q m 0 cs ((W.alloc (.cells cs 35)).alloc (.cells (madeCells #[.pointer none] n) 117)):=by
 have h:=Blk.new (W.alloc (.cells cs 35)) 117 (madeCells #[.pointer none] n)
 rw [show (W.alloc (.cells cs 35)).heap.size=W.heap.size+1 by simp] at h
 refine ⟨(Blk.new W _ _).alloc _,?_,fun i hi=>absurd hi (by omega),fun i hi=>absurd hi (by omega),by simp,((Below.refl _ _).alloc (Nat.le_refl _) _).alloc (by simp) _,rfl⟩
 rw [rowA_congr (g:=fun _=>.pointer none) (fun i _=>if_neg (Nat.not_lt_zero i)),← rowA_made]
 exact h
theorem NewSI.step (h:NewSI W R n q m k cs wr) (hk:k<n):NewSI W R n q m (k+1) cs ((newW wr m q).setCell ⟨R,k,none⟩ (.pointer (some ⟨wr.heap.size+1,0,none⟩))):=by
 have hs:=h.size
 have ha:=h.at_
 have hb:=Blk.new (wr.alloc (.cells (madeCells #[.int .u64 0] q) 45)) 154 #[.int .i64 m,.slice (some ⟨wr.heap.size,0,none⟩) q q]
 rw [show (wr.alloc (.cells (madeCells #[.int .u64 0] q) 45)).heap.size=wr.heap.size+1 by simp] at hb
 have hw:Blk (newW wr m q) wr.heap.size 45 (u64n (List.replicate q 0)).toArray:=by
  rw [← made_words]
  exact (Blk.new wr 45 (madeCells #[.int .u64 0] q)).alloc (.cells #[.int .i64 m,.slice (some ⟨wr.heap.size,0,none⟩) q q] 154)
 refine ⟨((h.gr.alloc _).alloc _).far (p:=⟨R,k,none⟩) (by show W.heap.size≠R;omega) _,?_,fun i hi=>?_,fun i hi=>?_,by simp [newW,World.setCell];omega,((h.below.alloc h.below.size _).alloc (by have:=h.below.size;simp;omega) _).setCell (p:=⟨R,k,none⟩) (by show W.heap.size≤R;omega) _,ha⟩
 ·have h1:=((h.row.alloc (.cells (madeCells #[.int .u64 0] q) 45)).alloc (.cells #[.int .i64 m,.slice (some ⟨wr.heap.size,0,none⟩) q q] 154)).set_ k (.pointer (some ⟨wr.heap.size+1,0,none⟩))
  rw [rowA_set] at h1
  rw [rowA_congr (g:=upd (fun i=>if i<k then .pointer (some ⟨R+2+2*i,0,none⟩) else .pointer none) k (.pointer (some ⟨wr.heap.size+1,0,none⟩))) (fun i hi=>by
   unfold upd
   show _=if i=k then _ else if i<k then _ else _
   by_cases e:i=k
   ·subst e
    rw [if_pos (by omega),if_pos rfl,show wr.heap.size+1=R+2+2*i by omega]
   ·rw [if_neg e]
    by_cases e2:i<k
    ·rw [if_pos (by omega),if_pos e2]
    ·rw [if_neg (by omega),if_neg e2])]
  exact h1
 ·by_cases e:i=k
  ·subst e
   rw [show R+2+2*i=wr.heap.size+1 by omega,show R+1+2*i=wr.heap.size by omega]
   exact hb.far (p:=⟨R,i,none⟩) (by show wr.heap.size+1≠R;omega) (.pointer (some ⟨wr.heap.size+1,0,none⟩))
  ·exact (((h.box i (by omega)).alloc _).alloc _).far (p:=⟨R,k,none⟩) (by show R+2+2*i≠R;omega) _
 ·by_cases e:i=k
  ·subst e
   rw [show R+1+2*i=wr.heap.size by omega]
   exact hw.far (p:=⟨R,i,none⟩) (by show wr.heap.size≠R;omega) (.pointer (some ⟨wr.heap.size+1,0,none⟩))
  ·exact (((h.words i (by omega)).alloc _).alloc _).far (p:=⟨R,k,none⟩) (by show R+1+2*i≠R;omega) _
theorem NewSI.done (h:NewSI W R n q m n cs wr) (hq:q=(m+63) / 64) (hm:m≤1024):SetsI wr R n q m (List.replicate n (List.replicate q 0)):=by
 refine ⟨?_,h.box,fun i hi=>?_,zeroS_wf n q m,hq,hm⟩
 ·rw [rowA_congr (g:=fun i=>if i<n then .pointer (some ⟨R+2+2*i,0,none⟩) else .pointer none) (fun i hi=>by rw [if_pos hi])]
  exact h.row
 ·rw [List.getD_eq_getElem?_getD,List.getElem?_replicate,if_pos hi,Option.getD_some]
  exact h.words i hi
end
theorem newSets_any (po ko io no:Option Addr) (nP pc nK kc nI ic n nc q:Nat) (cells keep entry:Int) (res:Bool) (w:World) (hn:n≤4096) (hK:nK≤1024) (hq:q=(nK+63) / 64) :
  Calls Tryz.prog 68 #[.agg #[.slice po nP pc,.slice ko nK kc,.int .i64 cells,.slice io nI ic,.bool res,.int .i64 keep,.slice no n nc,.int .i64 entry]] w fun e w'=>e=.returned (.slice (some ⟨w.heap.size+1,0,none⟩) n n)∧SetsI w' (w.heap.size+1) n q nK (List.replicate n (List.replicate q 0))∧Below w.heap.size w w'∧w'.heap.size=w.heap.size+2+2*n:=by
 have hmk:∀ W:World,(Instr.makeSlice 80 (.int .i64 n) (.int .i64 n)).run Tryz.prog W=.ok (.slice (some ⟨W.heap.size,0,none⟩) n n) (W.alloc (.cells (madeCells #[.pointer none] n) 117)):=fun W=>run_make_row' _ _ _ 8 Tryz.underlying80 info_pset rfl .i64 .i64 n (by omega) (by omega) W
 have HS:=Lib.hid (NewSI.start w n q nK #[.slice po nP pc,.slice ko nK kc,.int .i64 cells,.slice io nI ic,.bool res,.int .i64 keep,.slice no n nc,.int .i64 entry])
 have HQ:=Lib.hid hq
 clear hq
 go_enter Tryz.func68,Tryz.ntmps68
 go_wp2
 obtain ⟨R,hR⟩:∃ R,R=w.heap.size+1:=⟨_,rfl⟩
 rw [← hR] at HS ⊢
 have HR:=Lib.hid hR
 clear hR
 go_loopw [11] (fun i wr=>∃ k:Nat,k≤n∧i=.int .i64 k∧Hid (NewSI w R n q nK k #[.slice po nP pc,.slice ko nK kc,.int .i64 cells,.slice io nI ic,.bool res,.int .i64 keep,.slice no n nc,.int .i64 entry] wr)) (fun i _=>n-(intOf i).toNat)
 case atStart=>exact ⟨0,by omega,rfl,HS⟩
 case round =>
  obtain ⟨k,hk,rfl,HI⟩:=hrel
  by_cases hlt:k<n
  ·have g1:wr.cell? ⟨w.heap.size,1,none⟩=some (.slice ko nK kc):=HI.out.gr.cell 1
   have f1:(newW wr nK q).frozen? ⟨R,k,none⟩=false:=((HI.out.row.alloc _).alloc _).frozen k
   have y1:∃ y,(newW wr nK q).cell? ⟨R,k,none⟩=some y:=⟨_,(((HI.out.row.alloc _).alloc _).cell k).trans (rowA_at _ hlt)⟩
   obtain ⟨y,hy⟩:=y1
   go_wp2_with (go_at_call 87;refine (new_any nK nK q (by omega) (by omega) (by rw [if_neg (by omega)]) HQ.out _).mono ?_;rintro e w2 ⟨rfl,hw2⟩;rw [hw2];clear hw2)
   go_roundw
   case rel=>exact ⟨k+1,by omega,by go_num,Lib.hid (HI.out.step hlt)⟩
   case measure=>simp [intOf];omega
  ·obtain rfl:k=n:=by omega
   have HD:=Lib.hid (HI.out.done HQ.out hK)
   have HZ:=Lib.hid HI.out.size
   have HBL:=Lib.hid HI.out.below
   go_wp2
   go_ret
   have hR:=HR.out
   subst hR
   exact ⟨rfl,HD.out,HBL.out,by rw [HZ.out]⟩
end Go.Proofs.YtedmcfaghfgpoaaGreatDoor
