/-
  Texts of one seat, one behind the other: Cv, LSp0, LSp, LAt.
-/
import Derived.Deep.LoopGhost
import Derived.Test.YtepkogfiojkcpaaDoorMA7
import Derived.Test.YtepkogfiojkcpaaDoorMA6

set_option linter.unusedVariables false
set_option linter.unusedSimpArgs false
set_option maxRecDepth 100000
set_option maxHeartbeats 51200000
namespace Go.Proofs.YtepkogfiojkcpaaDoor
open Go.ChangeShapes Go.WideShapes Go.ChangeAt Go.RowKit
theorem index_eq (B:Nat) (A:Option Addr) (n c:Nat) (l:List Int) (v:Int) (w:World) (h:Reads w B 1 A n (i64c l)) (hn:l.length=n) (hnb:n≤140737488351232) :
  Calls Tryd.prog 90 #[.slice A n c,.int .i64 v] w fun e w'=>e=.returned (.int .i64 (ixOf (fun y=>v == y) l))∧w'=w:=by
 have H:=Lib.hid h
 have HN:=Lib.hid hn
 clear h hn
 go_enter Tryd.func90,Tryd.ntmps90
 go_wp2
 go_loopw [8] (fun i wr=>∃ k:Nat,k≤n∧i=.int .i64 k∧Hid (∀ y ∈ l.take k,(v == y)=false)∧wr=w) (fun i _=>n-(intOf i).toNat)
 case atStart=>exact ⟨0,Nat.zero_le _,rfl,Lib.hid (by simp),rfl⟩
 case round =>
  obtain ⟨k,hk,rfl,HB,rfl⟩:=hrel
  by_cases hlt:k<n
  ·obtain ⟨b,off,x,rfl,hb,HX,x1⟩:=H.out.int hlt
   cases hf:(v == x)
   ·have HQ:=Lib.hid (take_mem_snoc (f:=fun y=>v == y) HX.out hf HB.out)
    go_wp2
    go_roundw
    case rel=>exact ⟨k+1,by omega,by go_num,HQ,by first | rfl | trivial⟩
    case measure=>simp [intOf];omega
   ·have HQ:=Lib.hid (ix_at (f:=fun y=>v == y) HX.out hf HB.out)
    go_wp2
    go_ret
    exact ⟨by rw [HQ.out];rfl,by first | rfl | trivial⟩
  ·obtain rfl:n=k:=by omega
   have HQ:=Lib.hid (ix_none (f:=fun y=>v == y) (l:=l) (by have:=HB.out;rwa [List.take_of_length_le (by rw [HN.out];omega)] at this))
   go_wp2
   go_ret
   exact ⟨by rw [HQ.out];rfl,by first | rfl | trivial⟩
theorem contains_eq (B:Nat) (A:Option Addr) (n c:Nat) (l:List Int) (v:Int) (w:World) (h:Reads w B 1 A n (i64c l)) (hn:l.length=n) (hnb:n≤140737488351232) :
  Calls Tryd.prog 67 #[.slice A n c,.int .i64 v] w fun e w'=>e=.returned (.bool (decide (v ∈ l)))∧w'=w:=by
 have HI:=Lib.hid (index_eq B A n c l v w h hn hnb)
 have HD:Hid (decide (ixOf (fun y=>v == y) l≥0)=decide (v ∈ l)):=Lib.hid (by
  rw [ix_nonneg,Bool.eq_iff_iff,List.any_eq_true,decide_eq_true_eq]
  constructor
  ·rintro ⟨x,hx,he⟩
   have:v=x:=by simpa using he
   rw [this];exact hx
  ·intro hv
   exact ⟨v,hv,by simp⟩)
 clear h hn
 obtain ⟨z,hz⟩:∃ z,z=ixOf (fun y=>v == y) l:=⟨_,rfl⟩
 rw [← hz] at HI HD
 clear hz
 go_enter Tryd.func67,Tryd.ntmps67
 go_wp2_with (first | (go_at_call 90;refine HI.out.mono ?_;rintro e w2 ⟨rfl,rfl⟩))
 go_ret
 exact ⟨by rw [← HD.out];rfl,by first | rfl | trivial⟩

theorem kindsHold_any (B:Nat) (A:Option Addr) (n c:Nat) (ks:List Int) (bd:Bool) (w:World) (h:Reads w B 1 A n (u8c ks)) (hn:ks.length=n) (hnb:n≤140737488351232) :
  Calls Tryd.prog 100 #[.slice A n c,.bool bd] w fun e w'=>e=.returned (.bool (decide (kindsHold ks bd)))∧w'=w:=by
 have HC:=Lib.hid (contains_kinds B A n c ks (fun k=>k != 0 && k != 1) w h hn hnb fun p _=>kinds1_any p w)
 have HN:=Lib.hid hn
 clear h hn
 by_cases c1:n≤1024
 rotate_left
 ·have HD:Hid (decide (kindsHold ks bd)=false):=Lib.hid (by rw [decide_eq_false_iff_not];rintro ⟨h,_⟩;rw [HN.out] at h;exact c1 h)
  have g:decide ((n:Int) > 1024)=true:=by simp;omega
  clear c1
  go_enter Tryd.func100,Tryd.ntmps100
  go_wp2
  go_ret
  exact ⟨by rw [HD.out];rfl,by first | rfl | trivial⟩
 have g:decide ((n:Int) > 1024)=false:=by simp;omega
 have HE:(bd=true→16≤n)→Hid ((!(ks.any fun k=>k != 0 && k != 1))=decide (kindsHold ks bd)):=fun hb=>Lib.hid (by
  rw [Bool.eq_iff_iff,decide_eq_true_eq]
  unfold kindsHold
  rw [HN.out]
  simp only [Bool.not_eq_true',List.any_eq_false,Bool.and_eq_true,bne_iff_ne,not_and]
  constructor
  ·intro h
   refine ⟨c1,hb,fun k hk=>?_⟩
   by_cases h0:k=0
   ·exact .inl h0
   ·exact .inr (by simpa using h k hk h0)
  ·rintro ⟨_,_,h⟩ k hk h0
   rcases h k hk with h1 | h1
   ·exact absurd h1 h0
   ·simpa using h1)
 cases bd
 ·have HD:=HE (by intro h;cases h)
  clear HE c1
  go_enter Tryd.func100,Tryd.ntmps100
  go_wp2_with (first | (go_at_call 109;refine HC.out.mono ?_;rintro e w2 ⟨rfl,rfl⟩))
  go_ret
  exact ⟨by rw [← HD.out];rfl,by first | rfl | trivial⟩
 ·by_cases c2:16≤n
  rotate_left
  ·have HD:Hid (decide (kindsHold ks true)=false):=Lib.hid (by rw [decide_eq_false_iff_not];rintro ⟨_,h,_⟩;rw [HN.out] at h;exact c2 (h rfl))
   have g2:decide ((n:Int)<16)=true:=by simp;omega
   clear c1 c2 HE
   go_enter Tryd.func100,Tryd.ntmps100
   go_wp2
   go_ret
   exact ⟨by rw [HD.out];rfl,by first | rfl | trivial⟩
  ·have HD:=HE fun _=>c2
   have g2:decide ((n:Int)<16)=false:=by simp;omega
   clear HE c1 c2
   go_enter Tryd.func100,Tryd.ntmps100
   go_wp2_with (first | (go_at_call 109;refine HC.out.mono ?_;rintro e w2 ⟨rfl,rfl⟩))
   go_ret
   exact ⟨by rw [← HD.out];rfl,by first | rfl | trivial⟩

theorem Reads.upto {w:World} {B n k:Nat} {A:Option Addr} {l:List Int} (h:Reads w B 1 A n (i64c l)) (hk:k≤n):Reads w B 1 A k (i64c (l.take k)):=by
 refine ⟨by rw [length_i64c,List.length_take];have:=h.1;rw [length_i64c] at this;omega,fun hn=>?_⟩
 obtain ⟨ad,rfl,hb,hc⟩:=h.2 (by omega)
 refine ⟨ad,rfl,hb,fun j u hu=>hc j u ?_⟩
 unfold i64c at hu ⊢
 rw [List.map_take,List.getElem?_take] at hu
 split at hu
 ·exact hu
 ·cases hu
theorem paramsHold_any (B:Nat) (ps ks:List Int) (bd:Bool) (po ko io no:Option Addr) (nP pc nK kc nI ic nN nc:Nat) (cells keep entry:Int) (res:Bool) (w:World) (hp:Reads w B 1 po nP (i64c ps)) (hpl:ps.length=nP) (hpc:nP≤pc) (hnb:nP≤140737488351232) (hkl:ks.length=nK) (hB:B≤w.heap.size) :
  Calls Tryd.prog 101 #[.agg #[.slice po nP pc,.slice ko nK kc,.int .i64 cells,.slice io nI ic,.bool res,.int .i64 keep,.slice no nN nc,.int .i64 entry],.bool bd] w fun e w'=>e=.returned (.bool (decide (paramsHold ps ks bd)))∧Below w.heap.size w w':=by
 have HBL:Hid (Below w.heap.size w (w.alloc (.cells #[.slice po nP pc,.slice ko nK kc,.int .i64 cells,.slice io nI ic,.bool res,.int .i64 keep,.slice no nN nc,.int .i64 entry] 38))):=(Below.refl _ _).alloc (Nat.le_refl _) _
 have HBX:Hid (Blk (w.alloc (.cells #[.slice po nP pc,.slice ko nK kc,.int .i64 cells,.slice io nI ic,.bool res,.int .i64 keep,.slice no nN nc,.int .i64 entry] 38)) w.heap.size 38 #[.slice po nP pc,.slice ko nK kc,.int .i64 cells,.slice io nI ic,.bool res,.int .i64 keep,.slice no nN nc,.int .i64 entry]):=Blk.new w _ _
 have HP:=Lib.hid (hp.below (HBL.out.mono hB))
 have HPL:=Lib.hid hpl
 have HKL:=Lib.hid hkl
 clear hp hpl hkl
 by_cases c1:nP≤4
 rotate_left
 ·have HD:Hid (decide (paramsHold ps ks bd)=false):=Lib.hid (by rw [decide_eq_false_iff_not];rintro ⟨h,_⟩;rw [HPL.out] at h;exact c1 h)
  have g:decide ((nP:Int) > 4)=true:=by simp;omega
  clear c1
  go_enter Tryd.func101,Tryd.ntmps101
  go_wp2
  go_ret
  exact ⟨by rw [HD.out];rfl,HBL.out⟩
 have g:decide ((nP:Int) > 4)=false:=by simp;omega
 cases bd
 rotate_left
 ·have HD:Hid (decide (inOrder ps)=decide (paramsHold ps ks true)):=Lib.hid (by
   rw [decide_eq_decide]
   unfold paramsHold
   rw [HPL.out,if_pos rfl]
   exact ⟨fun h=>⟨c1,h⟩,fun h=>h.2⟩)
  clear c1
  go_enter Tryd.func101,Tryd.ntmps101
  go_wp2_with (first | (go_at_call 111;refine (inOrder_any B _ _ _ ps _ HP.out HPL.out (by omega)).mono ?_;rintro e w2 ⟨rfl,rfl⟩;rw [HD.out]))
  go_ret
  exact ⟨rfl,HBL.out⟩
 have HC1:=Lib.hid c1
 clear c1
 go_enter Tryd.func101,Tryd.ntmps101
 go_wp2
 go_loopw [18] (fun i wr=>∃ k:Nat,k≤nP∧i=.int .i64 k∧Hid (∀ j,j<k→isOne (ps.getD j 0) nK∧ps.getD j 0 ∉ ps.take j)∧wr=(w.alloc (.cells #[.slice po nP pc,.slice ko nK kc,.int .i64 cells,.slice io nI ic,.bool res,.int .i64 keep,.slice no nN nc,.int .i64 entry] 38))) (fun i _=>nP-(intOf i).toNat)
 case atStart=>exact ⟨0,Nat.zero_le _,rfl,Lib.hid (by intro j hj;omega),rfl⟩
 case round =>
  obtain ⟨k,hk,rfl,HI,rfl⟩:=hrel
  by_cases hlt:k<nP
  ·obtain ⟨b,off,x,rfl,hb,HX,x1⟩:=HP.out.int hlt
   have HG:Hid (ps.getD k 0=x):=Lib.hid (by simp [List.getD,HX.out])
   have HU:=Lib.hid (HP.out.upto (k:=k) (by omega))
   have HUL:Hid ((ps.take k).length=k):=Lib.hid (by rw [List.length_take,HPL.out];omega)
   by_cases c1:isOne x nK
   rotate_left
   ·have H1:Hid (decide (isOne x nK)=false):=Lib.hid (decide_eq_false c1)
    have HD:Hid (decide (paramsHold ps ks false)=false):=Lib.hid (by
     rw [decide_eq_false_iff_not]
     rintro ⟨_,h⟩
     rw [if_neg (by simp)] at h
     have:=(h k (by rw [HPL.out];exact hlt)).1
     rw [HG.out,HKL.out] at this
     exact c1 this)
    clear c1
    go_wp2_with (first | (go_at_call 103;refine (isOne_any _ _ _).mono ?_;rintro e w2 ⟨rfl,rfl⟩;rw [H1.out]))
    go_ret
    exact ⟨by rw [HD.out];rfl,HBL.out⟩
   have H1:Hid (decide (isOne x nK)=true):=Lib.hid (decide_eq_true c1)
   by_cases c2:x ∈ ps.take k
   ·have H2:Hid (decide (x ∈ ps.take k)=true):=Lib.hid (decide_eq_true c2)
    have HD:Hid (decide (paramsHold ps ks false)=false):=Lib.hid (by
     rw [decide_eq_false_iff_not]
     rintro ⟨_,h⟩
     rw [if_neg (by simp)] at h
     have:=(h k (by rw [HPL.out];exact hlt)).2
     rw [HG.out] at this
     exact this c2)
    clear c1 c2
    go_wp2_with (first
     | (go_at_call 103;refine (isOne_any _ _ _).mono ?_;rintro e w2 ⟨rfl,rfl⟩;rw [H1.out])
     | (go_at_call 67;refine (contains_eq B _ _ _ (ps.take k) x _ HU.out HUL.out (by omega)).mono ?_;rintro e w3 ⟨rfl,rfl⟩;rw [H2.out]))
    go_ret
    exact ⟨by rw [HD.out];rfl,HBL.out⟩
   ·have H2:Hid (decide (x ∈ ps.take k)=false):=Lib.hid (decide_eq_false c2)
    have HI2:Hid (∀ j,j<k+1→isOne (ps.getD j 0) nK∧ps.getD j 0 ∉ ps.take j):=Lib.hid (by
     intro j hj
     by_cases hjk:j<k
     ·exact HI.out j hjk
     ·obtain rfl:j=k:=by omega
      rw [HG.out]
      exact ⟨c1,c2⟩)
    clear c1 c2
    go_wp2_with (first
     | (go_at_call 103;refine (isOne_any _ _ _).mono ?_;rintro e w2 ⟨rfl,rfl⟩;rw [H1.out])
     | (go_at_call 67;refine (contains_eq B _ _ _ (ps.take k) x _ HU.out HUL.out (by omega)).mono ?_;rintro e w3 ⟨rfl,rfl⟩;rw [H2.out]))
    go_roundw
    case rel=>exact ⟨k+1,by omega,by go_num,HI2,by first | rfl | trivial⟩
    case measure=>simp [intOf];omega
  ·obtain rfl:nP=k:=by omega
   have HD:Hid (decide (paramsHold ps ks false)=true):=Lib.hid (by
    rw [decide_eq_true_eq]
    refine ⟨by rw [HPL.out];exact HC1.out,?_⟩
    rw [if_neg (by simp),HPL.out,HKL.out]
    exact HI.out)
   go_wp2
   go_ret
   exact ⟨by rw [HD.out];rfl,HBL.out⟩

theorem initHolds_any (B:Nat) (ps ks is:List Int) (bd:Bool) (po ko io no:Option Addr) (nP pc nK kc nI ic nN nc:Nat) (cells keep entry:Int) (res:Bool) (w:World) (hp:Reads w B 1 po nP (i64c ps)) (hpl:ps.length=nP) (hk:Reads w B 1 ko nK (u8c ks)) (hkl:ks.length=nK) (hi:Reads w B 1 io nI (i64c is)) (hil:is.length=nI) (hnb:nI≤140737488351232) (hB:B≤w.heap.size)
  (hph:paramsHold ps ks bd) :
  Calls Tryd.prog 102 #[.agg #[.slice po nP pc,.slice ko nK kc,.int .i64 cells,.slice io nI ic,.bool res,.int .i64 keep,.slice no nN nc,.int .i64 entry],.bool bd] w fun e w'=>e=.returned (.bool (decide (initHolds ps ks is cells bd)))∧Below w.heap.size w w':=by
 have HBL:Hid (Below w.heap.size w (w.alloc (.cells #[.slice po nP pc,.slice ko nK kc,.int .i64 cells,.slice io nI ic,.bool res,.int .i64 keep,.slice no nN nc,.int .i64 entry] 38))):=(Below.refl _ _).alloc (Nat.le_refl _) _
 have HBX:Hid (Blk (w.alloc (.cells #[.slice po nP pc,.slice ko nK kc,.int .i64 cells,.slice io nI ic,.bool res,.int .i64 keep,.slice no nN nc,.int .i64 entry] 38)) w.heap.size 38 #[.slice po nP pc,.slice ko nK kc,.int .i64 cells,.slice io nI ic,.bool res,.int .i64 keep,.slice no nN nc,.int .i64 entry]):=Blk.new w _ _
 have HP:=Lib.hid (hp.below (HBL.out.mono hB))
 have HK:=Lib.hid (hk.below (HBL.out.mono hB))
 have HIN:=Lib.hid (hi.below (HBL.out.mono hB))
 have HPL:=Lib.hid hpl
 have HKL:=Lib.hid hkl
 have HIL:=Lib.hid hil
 have HPH:=Lib.hid hph
 clear hp hpl hk hkl hi hil hph
 by_cases c1:nI=nP
 rotate_left
 ·have HD:Hid (decide (initHolds ps ks is cells bd)=false):=Lib.hid (by rw [decide_eq_false_iff_not];rintro ⟨h,_⟩;rw [HPL.out,HIL.out] at h;exact c1 h)
  have g:((nI:Int) != (nP:Int))=true:=by rw [bne_iff_ne];omega
  clear c1
  go_enter Tryd.func102,Tryd.ntmps102
  go_wp2
  go_ret
  exact ⟨by rw [HD.out];rfl,HBL.out⟩
 subst c1
 have g:((nI:Int) != (nI:Int))=false:=by simp
 have HBX2:Hid (Blk (w.alloc (.cells #[.slice po nI pc,.slice ko nK kc,.int .i64 cells,.slice io nI ic,.bool res,.int .i64 keep,.slice no nN nc,.int .i64 entry] 38)) w.heap.size 38 #[.slice po nI pc,.slice ko nK kc,.int .i64 cells,.slice io nI ic,.bool res,.int .i64 keep,.slice no nN nc,.int .i64 entry]):=HBX
 obtain ⟨W1,HW1⟩:∃ W,Hid (W=(w.alloc (.cells #[.slice po nI pc,.slice ko nK kc,.int .i64 cells,.slice io nI ic,.bool res,.int .i64 keep,.slice no nN nc,.int .i64 entry] 38))):=⟨_,rfl⟩
 go_enter Tryd.func102,Tryd.ntmps102
 go_wp2
 rw [← HW1.out] at HBX HBX2 HBL HP HK HIN ⊢
 go_loopw [17] (fun i wr=>∃ k q:Nat,k≤nI∧i=.int .i64 k∧Hid (∀ j,j<k→is.getD j 0=-1∨isOne (is.getD j 0) cells∧(bd=true∨kindAt ks (ps.getD j 0)=0))∧wr=W1.drewN q) (fun i _=>nI-(intOf i).toNat)
 case atStart=>exact ⟨0,0,Nat.zero_le _,rfl,Lib.hid (by intro j hj;omega),rfl⟩
 case round =>
  obtain ⟨k,q,hkk,rfl,HI,hwr⟩:=hrel
  have HWR:=Lib.hid hwr
  have HBXr:Hid (Blk wr w.heap.size 38 #[.slice po nI pc,.slice ko nK kc,.int .i64 cells,.slice io nI ic,.bool res,.int .i64 keep,.slice no nN nc,.int .i64 entry]):=Lib.hid (by rw [hwr];exact HBX.out.drewN q)
  have HINr:Hid (Reads wr B 1 io nI (i64c is)):=Lib.hid (by rw [hwr];exact HIN.out.drewN q)
  have HPr:Hid (Reads wr B 1 po nI (i64c ps)):=Lib.hid (by rw [hwr];exact HP.out.drewN q)
  have HKr:Hid (Reads wr B 1 ko nK (u8c ks)):=Lib.hid (by rw [hwr];exact HK.out.drewN q)
  have HBLr:Hid (Below w.heap.size w wr):=Lib.hid (by rw [hwr];exact below_drewN HBL.out q)
  clear hwr
  have d0:wr.cell? ⟨w.heap.size,0,none⟩=some (.slice po nI pc):=HBXr.out.cell 0
  have d1:wr.cell? ⟨w.heap.size,1,none⟩=some (.slice ko nK kc):=HBXr.out.cell 1
  have d2:wr.cell? ⟨w.heap.size,2,none⟩=some (.int .i64 cells):=HBXr.out.cell 2
  by_cases hlt:k<nI
  ·obtain ⟨b,off,x,rfl,hb,HX,x1⟩:=HINr.out.int hlt
   have HG:Hid (is.getD k 0=x):=Lib.hid (by simp [List.getD,HX.out])
   have hfalse:¬ (x=-1∨isOne x cells∧(bd=true∨kindAt ks (ps.getD k 0)=0))→Hid (decide (initHolds ps ks is cells bd)=false):=fun hn=>Lib.hid (by
    rw [decide_eq_false_iff_not]
    rintro ⟨_,h⟩
    have:=h k (by rw [HIL.out];exact hlt)
    rw [HG.out] at this
    exact hn this)
   have htrue:(x=-1∨isOne x cells∧(bd=true∨kindAt ks (ps.getD k 0)=0))→Hid (∀ j,j<k+1→is.getD j 0=-1∨isOne (is.getD j 0) cells∧(bd=true∨kindAt ks (ps.getD j 0)=0)):=fun hy=>Lib.hid (by
    intro j hj
    by_cases hjk:j<k
    ·exact HI.out j hjk
    ·obtain rfl:j=k:=by omega
     rw [HG.out]
     exact hy)
   by_cases c1:x=-1
   ·have g1:(x == -1)=true:=by simpa using c1
    have HI2:=htrue (.inl c1)
    clear hfalse htrue c1
    go_wp2
    go_roundw
    case rel=>exact ⟨k+1,q,by omega,by go_num,HI2,HWR.out⟩
    case measure=>simp [intOf];omega
   have g1:(x == -1)=false:=by simpa using c1
   by_cases c2:isOne x cells
   rotate_left
   ·have HC:∀ W,Calls Tryd.prog 103 #[.int .i64 x,.int .i64 cells] W fun e w'=>e=.returned (.bool false)∧w'=W:=fun W=>(isOne_any x cells W).mono fun e w' ⟨h1,h2⟩=>⟨by rw [h1,decide_eq_false c2],h2⟩
    have HD:=hfalse (by rintro (h | ⟨h,_⟩);exact c1 h;exact c2 h)
    clear hfalse htrue c1 c2
    go_wp2
    go_quiet ((go_at_call 103;exact Calls.quiet_of_same (HC _)))
    go_wp2
    go_ret
    exact ⟨by rw [HD.out];rfl,below_drewN HBLr.out _⟩
   have HC:∀ W,Calls Tryd.prog 103 #[.int .i64 x,.int .i64 cells] W fun e w'=>e=.returned (.bool true)∧w'=W:=fun W=>(isOne_any x cells W).mono fun e w' ⟨h1,h2⟩=>⟨by rw [h1,decide_eq_true c2],h2⟩
   cases bd
   rotate_left
   ·have HI2:=htrue (.inr ⟨c2,.inl rfl⟩)
    clear hfalse htrue c1 c2
    go_wp2
    go_quiet ((go_at_call 103;exact Calls.quiet_of_same (HC _)))
    go_wp2
    go_roundw
    case rel=>exact ⟨k+1,q+nq,by omega,by go_num,HI2,by rw [HWR.out,World.drewN_drewN]⟩
    case measure=>simp [intOf];omega
   ·obtain ⟨bp,op2,z,rfl,hbp,HXP,p1⟩:=HPr.out.int hlt
    have hzo:isOne z nK:=by
     have h1:=HPH.out.2
     rw [if_neg (by simp)] at h1
     have h2:=(h1 k (by rw [HPL.out];exact hlt)).1
     rwa [show ps.getD k 0=z by simp [List.getD,HXP.out],HKL.out] at h2
    obtain ⟨m,rfl⟩:∃ m:Nat,z=(m:Int):=⟨z.toNat,by have:=hzo.1;omega⟩
    have hm:m<nK:=by have:=hzo.2;omega
    obtain ⟨bk,ok,y,rfl,hbk,HXK,k1⟩:=HKr.out.byte hm
    have hka:kindAt ks (ps.getD k 0)=y:=by
     rw [show ps.getD k 0=(m:Int) by simp [List.getD,HXP.out]]
     simp [kindAt,List.getD,HXK.out]
    rw [hka] at hfalse htrue
    by_cases c3:y=0
    ·have g3:(y != 0)=false:=by simpa using c3
     have HI2:=htrue (.inr ⟨c2,.inr c3⟩)
     clear hfalse htrue c1 c2 c3 hka hzo
     go_wp2
     go_quiet ((go_at_call 103;exact Calls.quiet_of_same (HC _)))
     go_wp2
     go_roundw
     case rel=>exact ⟨k+1,q+nq,by omega,by go_num,HI2,by rw [HWR.out,World.drewN_drewN]⟩
     case measure=>simp [intOf];omega
    ·have g3:(y != 0)=true:=by simpa using c3
     have HD:=hfalse (by
      rintro (h | ⟨_,h | h⟩)
      ·exact c1 h
      ·cases h
      ·exact c3 h)
     clear hfalse htrue c1 c2 c3 hka hzo
     go_wp2
     go_quiet ((go_at_call 103;exact Calls.quiet_of_same (HC _)))
     go_wp2
     go_ret
     exact ⟨by rw [HD.out];rfl,below_drewN HBLr.out _⟩
  ·obtain rfl:nI=k:=by omega
   have HD:Hid (decide (initHolds ps ks is cells bd)=true):=Lib.hid (by
    rw [decide_eq_true_eq]
    refine ⟨by rw [HPL.out,HIL.out],?_⟩
    rw [HIL.out]
    exact HI.out)
   go_wp2
   go_ret
   exact ⟨by rw [HD.out];rfl,HBLr.out⟩
structure BwI (w:World) (E base bb R1 R2 R n q m:Nat) (vs:Nat→Value) (ls:Nat→List Int) (wss:List (List Nat)):Prop where
 box:Blk w bb 102 #[.slice (some ⟨R1,0,none⟩) n n,.slice (some ⟨R2,0,none⟩) n n,.slice (some ⟨R,0,none⟩) n n]
 r1:Blk w R1 34 (rowA n fun i=>vs (2*i))
 r2:Blk w R2 34 (rowA n fun i=>vs (2*i+1))
 fam:Fam w base (2*n) vs ls
 sets:SetsI w R n q m wss
 eb:bb<E
 e1:R1<E
 e2:R2<E
 eR:R<E
 es:∀ i,i<n→R+2+2*i<E
 ef:∀ k,k<2*n→∀ g,(vs k).ownBlock=some g→g<E
 eE:E≤w.heap.size
section
variable {w w':World} {E base bb R1 R2 R n q m:Nat} {vs:Nat→Value} {ls:Nat→List Int} {wss:List (List Nat)}
theorem NbI.bw {W:World} {cs:Array Value} (h:NbI W bb R1 R2 R n q m vs ls cs w):BwI w w.heap.size W.heap.size bb R1 R2 R n q m vs ls (List.replicate n (List.replicate q 0)) :=
 ⟨h.box,h.r1,h.r2,h.fam,h.sets,h.box.lt,h.r1.lt,h.r2.lt,h.sets.row.lt,fun i hi=>(h.sets.box i hi).lt,fun k hk g hg=>(own_block_le (h.fam.own k hk) hg).2,Nat.le_refl _⟩
theorem SetsI.on (h:SetsI w R n q m wss) (hb:Below E w w') (hR:R<E) (hs:∀ i,i<n→R+2+2*i<E):SetsI w' R n q m wss :=
 ⟨h.row.below hb hR,fun i hi=>(h.box i hi).below hb (hs i hi),fun i hi=>(h.words i hi).below hb (by have:=hs i hi;omega),h.wf,h.qm,h.mb⟩
theorem BwI.on (h:BwI w E base bb R1 R2 R n q m vs ls wss) (hb:Below E w w'):BwI w' E base bb R1 R2 R n q m vs ls wss :=
 ⟨h.box.below hb h.eb,h.r1.below hb h.e1,h.r2.below hb h.e2,h.fam.kept fun i hi g hg=>hb.block g (h.ef i hi g hg),h.sets.on hb h.eR h.es,h.eb,h.e1,h.e2,h.eR,h.es,h.ef,Nat.le_trans h.eE hb.size⟩
theorem BwI.alloc (h:BwI w E base bb R1 R2 R n q m vs ls wss) (o:Obj):BwI (w.alloc o) E base bb R1 R2 R n q m vs ls wss:=h.on ((Below.refl _ _).alloc h.eE _)
theorem BwI.drewN (h:BwI w E base bb R1 R2 R n q m vs ls wss) (k:Nat):BwI (w.drewN k) E base bb R1 R2 R n q m vs ls wss:=h.on (below_drewN (Below.refl _ _) k)
theorem BwI.add (h:BwI w E base bb R1 R2 R n q m vs ls wss) {i j:Nat} (hi:i<n) (hj:j<m) :
  BwI (w.setCell ⟨R+1+2*i,j / 64,none⟩ (.int .u64 (((addW (wss.getD i []) j).getD (j / 64) 0:Nat):Int))) E base bb R1 R2 R n q m vs ls (addS wss i j):=by
 have hw:=h.sets.words i hi
 exact ⟨h.box.far (p:=⟨R+1+2*i,j / 64,none⟩) (Blk.ne_ h.box hw (by decide)) _,h.r1.far (p:=⟨R+1+2*i,j / 64,none⟩) (Blk.ne_ h.r1 hw (by decide)) _,h.r2.far (p:=⟨R+1+2*i,j / 64,none⟩) (Blk.ne_ h.r2 hw (by decide)) _,h.fam.far hw (by decide) _ _,h.sets.add hi hj,h.eb,h.e1,h.e2,h.eR,h.es,h.ef,by simpa [World.setCell] using h.eE⟩
end
theorem keepB_snoc (ns:List Nd) (p:Nat) (l:List Int) (x:Int):keepB ns p (l ++ [x])=keepB ns p l ++ keepB ns p [x]:=List.filter_append _ _
theorem keepB_one {ns:List Nd} {p i:Nat} {nd:Nd} (h:ns[i]?=some nd):keepB ns p [(i:Int)]=if (p:Int) ∈ writesOf nd then [] else [(i:Int)]:=by
 unfold keepB
 by_cases h2:(p:Int) ∈ writesOf nd
 ·simp [h,h2]
 ·simp [h,h2]
def owes (n:Nat) (wss:List (List Nat)) (p:Nat) (l:Nat):Nat:=l+2*n*(n-cntS wss n p)
theorem owes_step {wss:List (List Nat)} {n q m i p l b:Nat} (h:WfS wss n q m) (hi:i<n) (hp:p / 64<q) (hn:hasS wss i p=false) (hb:b≤2*n):owes n (addS wss i p) p (l+b)<owes n wss p (l+1):=by
 unfold owes
 rw [cntS_add h hi hp hn]
 have hc:cntS wss n p+1≤n:=by
  have:=cntS_le (addS wss i p) n p
  rwa [cntS_add h hi hp hn] at this
 obtain ⟨d,hd⟩:∃ d,n-cntS wss n p=d+1:=⟨n-cntS wss n p-1,by omega⟩
 have hd':n-(cntS wss n p+1)=d:=by omega
 rw [hd,hd',Nat.mul_add,Nat.mul_one]
 omega
theorem owes_skip (n:Nat) (wss:List (List Nat)) (p l:Nat):owes n wss p l<owes n wss p (l+1):=by
 unfold owes
 omega
theorem owes_le (n:Nat) (wss:List (List Nat)) (p l:Nat):l≤owes n wss p l:=by
 unfold owes
 omega
theorem owes_start {n:Nat} (hn:n≤4096) (wss:List (List Nat)) (p:Nat):owes n wss p 1≤33554433:=by
 unfold owes
 have h1:2*n*(n-cntS wss n p)≤8192*4096:=Nat.mul_le_mul (by omega) (by omega)
 omega
theorem list_last {l:List Int} (h:0<l.length):∃ init x,l=init ++ [x]:=by
 rcases List.eq_nil_or_concat l with rfl | ⟨i,x,rfl⟩
 ·simp at h
 ·exact ⟨i,x,by simp⟩
theorem llens (n:Nd):(writesOf n).length≤2:=by
 have:=addL_len [] (writeF n)
 unfold writesOf
 have h2:(writeF n).length≤2:=by unfold writeF;split <;> (try split) <;> simp
 simp at this
 omega
theorem lown_cut {W:World} {base size n k c:Nat} {e:TypeId} {A:Option Addr} {xs:List Value} (h:W.ownsRow base e size (.slice A n c) n xs) (hk:k≤n):W.ownsRow base e size (.slice A k c) k (xs.take (k*size)):=by
 have hl:=h.1
 refine ⟨by rw [List.length_take,hl];exact Nat.min_eq_left (Nat.mul_le_mul_right _ hk),?_⟩
 rcases h.2 with ⟨he,h0⟩ | ⟨g,cap,cur,he,hb,hh,hnc,hcm,hcs,hx⟩
 ·injection he with h1 h2 h3
  subst h1 h3
  have:k=0:=by omega
  subst this
  exact .inl ⟨rfl,rfl⟩
 ·injection he with h1 h2 h3
  subst h1 h3
  refine .inr ⟨g,c,cur,rfl,hb,hh,by omega,hcm,hcs,?_⟩
  rw [← hx,List.take_take,Nat.min_eq_left (Nat.mul_le_mul_right _ hk)]
theorem lown_cut1 {W:World} {base c L:Nat} {A:Option Addr} {init:List Int} {x:Int} (h:W.ownsRow base 3 1 (.slice A (L+1) c) (L+1) (i64c (init ++ [x]))) (hL:init.length=L):W.ownsRow base 3 1 (.slice A L c) L (i64c init):=by
 have h1:=lown_cut h (Nat.le_succ L)
 rw [Nat.mul_one,i64c_append,List.take_append_of_le_length (by rw [length_i64c];omega),List.take_of_length_le (by rw [length_i64c];omega)] at h1
 exact h1
theorem spread_any {ns:List Nd} {nd:Nd} (E base bb R1 R2 R n q m:Nat) (vs:Nat→Value) (ls:Nat→List Int) (wss:List (List Nat)) (p r:Nat) (w:World) (h:BwI w E base bb R1 R2 R n q m vs ls wss) (hns:ns.length=n) (hn:n≤4096)
  (hlb:∀ i,i<n→ls (2*i)=(befK n ns n).getD i []) (hlw:∀ i x,ns[i]?=some x→ls (2*i+1)=writesOf x) (hv:NextIn ns) (hp:p<m) (hr:ns[r]?=some nd) (hpr:(p:Int) ∈ readsOf nd)
  (hc:∀ a,hasS wss a p=true→∀ (i:Nat) n,ns[i]?=some n→(p:Int) ∉ writesOf n→(a:Int) ∈ nextsOf n→hasS wss i p=true) :
  Calls Tryd.prog 41 #[.pointer (some ⟨bb,0,none⟩),.int .i64 p,.int .i64 r] w fun e w'=>e=.returned (.tuple #[])∧∃ wss',BwI w' E base bb R1 R2 R n q m vs ls wss'∧KpS w w' w.heap.size R n∧SpI ns p r wss wss' []:=by
 have HSP:=Lib.hid (SpI.start hr hpr hc)
 have HO0:=Lib.hid (lit_own w 3 (i64c [(r:Int)]) 1 rfl)
 have HB0:=Lib.hid (h.alloc (.cells #[.int .i64 r] 3))
 have HK0:Hid (KpS w (w.alloc (.cells #[.int .i64 r] 3)) w.heap.size R n):=Lib.hid ((KpS.refl w w.heap.size R n).below (E':=w.heap.size) ((Below.refl _ _).alloc (Nat.le_refl _) _) (Nat.le_refl _))
 have HEE:=Lib.hid h.eE
 have hq:p / 64<q:=by have:=h.sets.qm;omega
 have hm:m≤1024:=h.sets.mb
 have hqm:m≤64*q:=by have:=h.sets.qm;omega
 have HLB:=Lib.hid hlb
 have HLW:=Lib.hid hlw
 have HNS:=Lib.hid hns
 have HBM:=Lib.hid (fun a y=>befK_mem hv a y n (by omega))
 have HBE:=Lib.hid (fun a=>befK_el n ns a n)
 have HST:=Lib.hid (owes_start hn wss p)
 have HHR:Hid (∀ i,i<n→R+2+2*i<E):=Lib.hid h.es
 rw [hns] at HBM
 clear h hlb hlw hns hv hr hpr hc
 go_enter Tryd.func41,Tryd.ntmps41
 go_wp2
 go_loopg [6] (owes n wss p 1) (fun gk s wr=>∃ (wss2:List (List Nat)) (wait:List Int) (A:Option Addr) (M c:Nat),gk=owes n wss2 p M∧wait.length=M∧s=.slice A M c∧gk≤33554433∧Hid (BwI wr E base bb R1 R2 R n q m vs ls wss2)∧Hid (KpS w wr w.heap.size R n)∧Hid (wr.ownsRow w.heap.size 3 1 (.slice A M c) M (i64c wait))∧Hid (SpI ns p r wss wss2 wait))
 case atStart=>exact ⟨wss,[(r:Int)],_,1,1,rfl,rfl,rfl,HST.out,HB0,HK0,HO0,HSP⟩
 case round =>
  clear HB0 HK0 HO0 HSP HST
  obtain ⟨wss2,wait,A,M,c,hgk,hwl,rfl,hgb,HB,HK,HO,HS⟩:=hrel
  by_cases hM:M=0
  ·subst hM
   have HF:Hid (SpI ns p r wss wss2 []):=by
    have:wait=[]:=List.eq_nil_of_length_eq_zero hwl
    rw [this] at HS
    exact HS
   go_wp2
   go_end0
   exact ⟨rfl,wss2,HB.out,HK.out,HF.out⟩
  ·have hMl:M≤33554433:=by have:=owes_le n wss2 p M;omega
   obtain ⟨init,x,rfl⟩:=list_last (l:=wait) (by omega)
   obtain ⟨L,hL⟩:∃ L,L=init.length:=⟨_,rfl⟩
   have hML:M=L+1:=by rw [← hwl,List.length_append,← hL];rfl
   have HML:=Lib.hid hML
   have hm1:(M:Int)-1=(L:Int):=by omega
   have hLM:L<M:=by omega
   obtain ⟨k,rfl,hkn,_⟩:=HS.out.wl x (by simp)
   rw [HNS.out] at hkn
   obtain ⟨bx,ox,x',hxe,hbx,HXX,x1⟩:=(Reads.of_own HO.out).int hLM
   obtain rfl:x'=(k:Int):=by
    have h1:=HXX.out
    rw [hL,List.getElem?_append_right (Nat.le_refl _),Nat.sub_self] at h1
    simpa using h1.symm
   have hcap:=own_cap HO.out
   have HC:Hid (wr.ownsRow w.heap.size 3 1 (.slice A L c) L (i64c init)):=Lib.hid (by
    have h1:=HO.out
    rw [hML] at h1
    exact lown_cut1 h1 hL.symm)
   have HLL:=Lib.hid hL
   have hGK:Hid (gk=owes n wss2 p (L+1)):=Lib.hid (by rw [hgk,hML])
   have b2:wr.cell? ⟨bb,2,none⟩=some (.slice (some ⟨R,0,none⟩) n n):=HB.out.box.cell 2
   have s0:wr.cell? ⟨R,k,none⟩=some (.pointer (some ⟨R+2+2*k,0,none⟩)):=by rw [HB.out.sets.row.cell,rowA_at _ hkn]
   have hle:(wss2.getD k []).length=q:=HB.out.sets.wf.each _ (getD_mem _ (by rw [HB.out.sets.wf.len];exact hkn))
   have HLT:Hid (∀ x ∈ wss2.getD k [],x<18446744073709551616):=Lib.hid (HB.out.sets.wf.lt _ (getD_mem _ (by rw [HB.out.sets.wf.len];exact hkn)))
   rw [hxe] at HC ⊢
   clear hgk hwl hML hL hxe hM HO HXX
   rcases hhas:hasS wss2 k p with _ | _
   ·have HAD:=Lib.hid (ladd_new (R+2+2*k) (R+1+2*k) m q p (wss2.getD k []) wr (HB.out.sets.box k hkn) (HB.out.sets.words k hkn) hle HLT.out (by omega) hp hqm hhas)
    have HW:=Lib.hid (HB.out.add hkn hp)
    have HKW:=Lib.hid (HK.out.set hkn (p / 64) (.int .u64 (((addW (wss2.getD k []) p).getD (p / 64) 0:Nat):Int)))
    have HCW:=Lib.hid (own_far HC.out (HB.out.sets.words k hkn) (by decide) (p / 64) (.int .u64 (((addW (wss2.getD k []) p).getD (p / 64) 0:Nat):Int)))
    obtain ⟨W2,hW2⟩:∃ W2,W2=wr.setCell ⟨R+1+2*k,p / 64,none⟩ (.int .u64 (((addW (wss2.getD k []) p).getD (p / 64) 0:Nat):Int)):=⟨_,rfl⟩
    rw [← hW2] at HAD HW HKW HCW
    have HSTEP:Hid (∀ b,b≤2*n→owes n (addS wss2 k p) p (L+b)<gk):=Lib.hid fun b hb=>by
     rw [hGK.out]
     exact owes_step HB.out.sets.wf hkn hq hhas hb
    have HSS:Hid (SpI ns p r wss (addS wss2 k p) (init ++ keepB ns p (ls (2*k)))):=Lib.hid (HS.out.step HB.out.sets.wf hkn hq (ls (2*k)) (fun y=>by
     rw [HLB.out k hkn,HBM.out k y]
     constructor
     ·rintro ⟨i,_,h2,h3⟩
      exact ⟨i,h2,h3⟩
     ·rintro ⟨i,h2,nd,h3,h4⟩
      exact ⟨i,by have:=(List.getElem?_eq_some_iff.1 h3).1;rw [HNS.out] at this;exact this,h2,nd,h3,h4⟩))
    have HBK:Hid (∀ y ∈ ls (2*k),∃ i:Nat,y=i∧i<n∧∃ nd,ns[i]?=some nd):=Lib.hid fun y hy=>by
     rw [HLB.out k hkn,HBM.out k y] at hy
     obtain ⟨i,h1,h2,nd,h3,_⟩:=hy
     exact ⟨i,h2,h1,nd,h3⟩
    have hbl:(ls (2*k)).length≤2*n:=by rw [HLB.out k hkn];exact HBE.out k
    obtain ⟨Ak,ck,hsk⟩:=HB.out.fam.slice (i:=2*k) (by omega)
    have HSK:=Lib.hid hsk
    obtain ⟨mk,hmk⟩:∃ x,x=(ls (2*k)).length:=⟨_,rfl⟩
    have HMK:=Lib.hid hmk
    rw [← hmk] at hbl hsk
    have HRK:Hid (∀ nq,(W2.drewN nq).cell? ⟨R1,k,none⟩=some (.slice Ak mk ck)):=Lib.hid fun nq=>by rw [((HW.out.drewN nq).r1).cell,rowA_at _ hkn,hsk]
    have HB0':Hid (∀ nq,(W2.drewN nq).cell? ⟨bb,0,none⟩=some (.slice (some ⟨R1,0,none⟩) n n)):=Lib.hid fun nq=>((HW.out.drewN nq).box).cell 0
    clear hsk hmk hhas hW2 HB HK HC hGK HS
    go_wp2_with (go_at_call 66;refine HAD.out.mono ?_;rintro e w5 ⟨rfl,nq,hw5⟩;rw [hw5];clear hw5;have r0:=HRK.out nq;have b0:=HB0'.out nq)
    have HW5:=Lib.hid (HW.out.drewN nq)
    have HK5:=Lib.hid (HKW.out.drewN nq)
    have HC5:Hid ((W2.drewN nq).ownsRow w.heap.size 3 1 (.slice (some ⟨bx,ox,none⟩) L c) L (i64c init)):=Lib.hid HCW.out
    obtain ⟨W5,hW5⟩:∃ W5,W5=W2.drewN nq:=⟨_,rfl⟩
    rw [← hW5] at HW5 HK5 HC5 ⊢
    clear b2 s0 x1 r0 b0 hW5 HRK HB0' HW HKW HCW HAD
    go_loopw [6,44] (fun v i wr=>∃ (j ll:Nat) (A:Option Addr) (c:Nat),j≤mk∧i=.int .i64 j∧ll=(keepB ns p ((ls (2*k)).take j)).length∧ll≤j∧v=.slice A (L+ll) c∧Hid (BwI wr E base bb R1 R2 R n q m vs ls (addS wss2 k p))∧Hid (KpS w wr w.heap.size R n)∧Hid (wr.ownsRow w.heap.size 3 1 (.slice A (L+ll) c) (L+ll) (i64c (init ++ keepB ns p ((ls (2*k)).take j))))) (fun _ i _=>mk-(intOf i).toNat)
    case atStart=>exact ⟨0,0,_,c,by omega,rfl,by simp [keepB],by omega,rfl,HW5,HK5,by simpa [keepB] using HC5⟩
    case round =>
     clear HW5 HK5 HC5
     obtain ⟨j,ll,A2,c2,hj,rfl,hll,hllj,rfl,HB,HK,HO⟩:=hrel
     have HLJ:=Lib.hid hll
     clear hll
     by_cases hjl:j<mk
     ·obtain ⟨by_,oy,y,hye,hby,HYY,y1⟩:=(Reads.of_own (by have h1:=HB.out.fam.own (2*k) (by omega);rw [HSK.out] at h1;exact h1)).int (show j<(ls (2*k)).length by rw [← HMK.out];exact hjl)
      obtain ⟨i,rfl,hi,nd2,hnd2⟩:=HBK.out y (List.mem_of_getElem? HYY.out)
      have HTK:=Lib.hid (take_at HYY.out)
      have HK1:=Lib.hid (keepB_one (p:=p) hnd2)
      obtain ⟨Ai,ci,hsi⟩:=HB.out.fam.slice (i:=2*i+1) (by omega)
      have hwi:ls (2*i+1)=writesOf nd2:=HLW.out i nd2 hnd2
      obtain ⟨mi,hmi⟩:∃ x,x=(ls (2*i+1)).length:=⟨_,rfl⟩
      have b1:wr.cell? ⟨bb,1,none⟩=some (.slice (some ⟨R2,0,none⟩) n n):=HB.out.box.cell 1
      have r2:wr.cell? ⟨R2,i,none⟩=some (.slice Ai mi ci):=by rw [HB.out.r2.cell,rowA_at _ hi,hsi,hmi]
      have hml2:mi≤2:=by rw [hmi,hwi];exact llens nd2
      have HCT:=Lib.hid (contains_eq wr.heap.size Ai mi ci (ls (2*i+1)) p wr (by
       have h1:=HB.out.fam.own (2*i+1) (by omega)
       rw [hsi,← hmi] at h1
       exact Reads.of_own h1) hmi.symm (by omega))
      rw [hwi] at HCT
      have HYE:=Lib.hid hye
      rw [hye]
      clear hye hsi hmi hwi hnd2 HYY
      by_cases hcon:(p:Int) ∈ writesOf nd2
      ·have H1:Hid (decide ((p:Int) ∈ writesOf nd2)=true):=Lib.hid (decide_eq_true hcon)
       have HK2:Hid (keepB ns p ((ls (2*k)).take (j+1))=keepB ns p ((ls (2*k)).take j)):=Lib.hid (by
        rw [HTK.out,keepB_snoc,HK1.out,if_pos hcon,List.append_nil])
       clear hcon
       go_wp2_with (go_at_call 67;refine HCT.out.mono ?_;rintro e w6 ⟨rfl,hw6⟩;rw [hw6];clear hw6;rw [H1.out])
       go_roundw
       case rel=>exact ⟨j+1,ll,A2,c2,by omega,by go_num,by rw [HK2.out];exact HLJ.out,by omega,rfl,HB,HK,by rw [HK2.out];exact HO⟩
       case measure=>simp [intOf];omega
      ·have H1:Hid (decide ((p:Int) ∈ writesOf nd2)=false):=Lib.hid (decide_eq_false hcon)
       have HK2:Hid (keepB ns p ((ls (2*k)).take (j+1))=keepB ns p ((ls (2*k)).take j) ++ [(i:Int)]):=Lib.hid (by
        rw [HTK.out,keepB_snoc,HK1.out,if_neg hcon])
       have hEw:=HB.out.eE
       have hwz:=HK.out.size
       clear hcon
       go_wp2_with (first
        | (go_at_call 67;refine HCT.out.mono ?_;rintro e w6 ⟨rfl,hw6⟩;rw [hw6];clear hw6;rw [H1.out])
        | (at_builtin;refine app_int rfl (.tmp 58) (.tmp 60) rfl w.heap.size _ _ _ rfl (own_alloc HO.out _) (wr.heap.size+1) (some ⟨wr.heap.size,0,none⟩) 1 1 [.int .i64 i] rfl (one_reads wr _ _ 1 rfl) (ints_oneCell .i64 [(i:Int)]) (by omega) (by simp;omega) ?_;intro v' w8 hown hgr hor;obtain ⟨A8,c8,rfl⟩:=own_slice hown;have HO8:=Lib.hid hown;have HB8:Hid (Below w.heap.size wr w8):=Lib.hid (((Below.refl _ _).alloc (by omega) _).grown hgr (by simp;omega) fun g hg=>(own_block_le HO.out hg).1);clear hown hgr hor))
       go_roundw
       case rel =>
        refine ⟨j+1,ll+1,A8,c8,by omega,by go_num,by rw [HK2.out,List.length_append,← HLJ.out];rfl,by omega,by rw [Nat.add_assoc],Lib.hid (HB.out.on (HB8.out.mono HEE.out)),Lib.hid (HK.out.below HB8.out (Nat.le_refl _)),?_⟩
        rw [HK2.out,← List.append_assoc,i64c_append]
        exact HO8
       case measure=>simp [intOf];omega
     ·obtain rfl:mk=j:=by omega
      have HTA:Hid ((ls (2*k)).take mk=ls (2*k)):=Lib.hid (List.take_of_length_le (by rw [HMK.out];exact Nat.le_refl _))
      rw [HTA.out] at HLJ HO
      go_wp2
      go_roundg (owes n (addS wss2 k p) p (L+ll))
      case measure=>exact HSTEP.out ll (by omega)
      case rel=>exact ⟨_,_,A2,L+ll,c2,rfl,by rw [List.length_append,← HLL.out,← HLJ.out],rfl,by have:=HSTEP.out ll (by omega);omega,HB,HK,HO,HSS⟩
   ·have HAD:=Lib.hid (ladd_there (R+2+2*k) (R+1+2*k) m q p (wss2.getD k []) wr (HB.out.sets.box k hkn) (HB.out.sets.words k hkn) hle HLT.out (by omega) hp hqm hhas)
    have HSS:=Lib.hid (HS.out.skip hhas)
    have HLTG:Hid (owes n wss2 p L<gk):=Lib.hid (by rw [hGK.out];exact owes_skip n wss2 p L)
    clear hhas HS
    go_wp2_with (go_at_call 66;refine HAD.out.mono ?_;rintro e w5 ⟨rfl,nq,hw5⟩;rw [hw5];clear hw5)
    go_roundg (owes n wss2 p L)
    case measure=>exact HLTG.out
    case rel=>exact ⟨wss2,init,_,L,c,rfl,HLL.out.symm,rfl,by have:=HLTG.out;omega,Lib.hid (HB.out.drewN nq),Lib.hid (HK.out.drewN nq),Lib.hid HC.out,HSS⟩
theorem reads_kps {w w':World} {B E R n q m k:Nat} {A:Option Addr} {l:List Int} {wss:List (List Nat)} (h:Reads w B 1 A k (i64c l)) (hB:B≤E) (hk:KpS w w' E R n) (hs:SetsI w R n q m wss):Reads w' B 1 A k (i64c l):=by
 refine ⟨h.1,fun hn=>?_⟩
 obtain ⟨b,off,rfl,hb,hc⟩:=h.lit hn (by omega)
 have hne:∀ j,j<n→b≠R+1+2*j:=by
  intro j hj e
  subst e
  have hl:0<l.length:=by have:=h.1;rw [length_i64c] at this;omega
  have h1:=hc 0 _ (i64c_at (List.getElem?_eq_getElem hl))
  have hw:=(hs.words j hj).cell (off+0)
  rw [hw,List.getElem?_toArray] at h1
  unfold u64n at h1
  rw [List.getElem?_map] at h1
  rcases e2:(wss.getD j [])[off+0]? with _ | y
  ·rw [e2] at h1;cases h1
  ·rw [e2] at h1
   injection h1 with h1
   injection h1 with h1
   cases h1
 refine ⟨⟨b,off,none⟩,rfl,hb,fun j u hu=>?_⟩
 have ea:(⟨b,off,none⟩:Addr).add j=⟨b,off+j,none⟩:=by simp [Addr.add]
 rw [ea]
 exact (World.cell?_of_block (hk.block b (by omega) hne)).trans (hc j u hu)
theorem llenr (n:Nd) (h:n.args.length*8≤140737488351232):(readsOf n).length≤140737488351232:=by
 have:=addL_len [] (readF n)
 unfold readsOf
 have h2:(readF n).length≤n.args.length+2:=by unfold readF;split <;> (try split) <;> (try split) <;> simp <;> omega
 simp at this
 omega
def ReadIn (ns:List Nd) (m:Nat):Prop:=∀ n ∈ ns,∀ x ∈ readsOf n,0≤x∧x<m
theorem liveAt_any (B:Nat) (po ko io no:Option Addr) (nP pc nK kc nI ic n nc q:Nat) (cells keep entry:Int) (res:Bool) (rn:List RN) (w:World) (hN:RdNs w B no n rn) (hB:B≤w.heap.size) (hn:n≤4096) (hK:nK≤1024) (hq:q=(nK+63) / 64) (hv:NextIn (nds rn)) (hrd:ReadIn (nds rn) nK) :
  Calls Tryd.prog 20 #[.agg #[.slice po nP pc,.slice ko nK kc,.int .i64 cells,.slice io nI ic,.bool res,.int .i64 keep,.slice no n nc,.int .i64 entry]] w fun e w' =>
   ∃ R wss,e=.returned (.slice (some ⟨R,0,none⟩) n n)∧SetsI w' R n q nK wss∧(∀ i p,hasS wss i p=true↔Live (nds rn) p i)∧Below w.heap.size w w'∧w.heap.size<R:=by
 obtain ⟨cs,hcs⟩:∃ cs:Array Value,cs=#[.slice po nP pc,.slice ko nK kc,.int .i64 cells,.slice io nI ic,.bool res,.int .i64 keep,.slice no n nc,.int .i64 entry]:=⟨_,rfl⟩
 have hb1:Below w.heap.size w (w.alloc (.cells #[.slice po nP pc,.slice ko nK kc,.int .i64 cells,.slice io nI ic,.bool res,.int .i64 keep,.slice no n nc,.int .i64 entry] 38)):=(Below.refl _ _).alloc (Nat.le_refl _) _
 have HG1:=Lib.hid (Blk.new w 38 #[.slice po nP pc,.slice ko nK kc,.int .i64 cells,.slice io nI ic,.bool res,.int .i64 keep,.slice no n nc,.int .i64 entry])
 have HNB:=Lib.hid (newBack_any B po ko io no nP pc nK kc nI ic n nc q cells keep entry res rn _ (hN.below (hb1.mono hB)) (by simp;omega) hn hK hq hv)
 have HB1:=Lib.hid hb1
 have HRN:=Lib.hid hN
 have HV:=Lib.hid hv
 have HRI:=Lib.hid hrd
 have HLN:Hid ((nds rn).length=n):=Lib.hid (by rw [length_nds];exact hN.len)
 have HZ1:Hid ((w.alloc (.cells #[.slice po nP pc,.slice ko nK kc,.int .i64 cells,.slice io nI ic,.bool res,.int .i64 keep,.slice no n nc,.int .i64 entry] 38)).heap.size=w.heap.size+1):=Lib.hid (by simp)
 clear hcs hq hN hv hrd hb1
 go_enter Tryd.func20,Tryd.ntmps20
 go_wp2_with (go_at_call 39;refine HNB.out.mono ?_;rintro e w1 ⟨bb,R1,R2,R,vs,ls,rfl,hi,hlb,hlw⟩;have HI:=Lib.hid hi;have HLB:=Lib.hid hlb;have HLW:=Lib.hid hlw;clear hi hlb hlw;have g6:w1.cell? ⟨w.heap.size,6,none⟩=some (.slice no n nc):=(HG1.out.below HI.out.below HG1.out.lt).cell 6)
 clear g6
 have HBW:=Lib.hid HI.out.bw
 have HL3:Hid (w.heap.size+1<R):=Lib.hid (by have:=HI.out.l3;rw [HZ1.out] at this;exact this)
 have HW1:=Lib.hid (HB1.out.trans (HI.out.below.mono HB1.out.size))
 obtain ⟨E,hE⟩:∃ E,E=w1.heap.size:=⟨_,rfl⟩
 rw [← hE] at HBW
 have HEE:=Lib.hid hE
 obtain ⟨base,hbase⟩:∃ b,b=(w.alloc (.cells #[.slice po nP pc,.slice ko nK kc,.int .i64 cells,.slice io nI ic,.bool res,.int .i64 keep,.slice no n nc,.int .i64 entry] 38)).heap.size:=⟨_,rfl⟩
 rw [← hbase] at HBW
 clear hE hbase HI HNB HG1 HB1 HZ1
 go_loopw [13] (fun i wr=>∃ (k:Nat) (wss:List (List Nat)),k≤n∧i=.int .i64 k∧Hid (BwI wr E base bb R1 R2 R n q nK vs ls wss)∧Hid (KpS w1 wr E R n)∧Hid (LvI (nds rn) wss k 0)) (fun i _=>n-(intOf i).toNat)
 case atStart=>exact ⟨0,_,by omega,rfl,HBW,Lib.hid (KpS.refl _ _ _ _),Lib.hid (LvI.start _ _ _)⟩
 case round =>
  clear HBW
  obtain ⟨k,wss,hk,rfl,HB,HK,HLV⟩:=hrel
  have HBK:Hid (Below w.heap.size w wr):=Lib.hid (HW1.out.trans (HK.out.out (by have:=HL3.out;have:=HB.out.eR;omega) (by have:=HL3.out;omega)))
  by_cases hlt:k<n
  ·obtain ⟨bn,on,i,hno,hbn,HXI,HRN1,HWI,u0,u1,u2,u3,u4,u5,u6,u7,u8,u9,u10,u11⟩:=(HRN.out.below (HBK.out.mono hB)).nd hlt
   have HXN:Hid ((nds rn)[k]?=some i.nd):=Lib.hid (by unfold nds;rw [List.getElem?_map,HXI.out];rfl)
   have hwz:=HBK.out.size
   have hbnr:bn<wr.heap.size:=by omega
   have hb6:Below wr.heap.size wr (wr.alloc (.cells #[.int .u8 i.nd.op,.int .u8 i.nd.bop,.int .i64 i.nd.d,.int .i64 i.nd.e,.int .i64 i.nd.a,.int .i64 i.nd.b,.int .i64 i.nd.f,.int .i64 i.nd.cell,.int .u64 i.nd.imm,.slice i.ao i.nd.args.length i.ac,.int .i64 i.nd.next,.int .i64 i.nd.els] 60)):=(Below.refl _ _).alloc (Nat.le_refl _) _
   have HRE:=Lib.hid (reads_any B i.nd.op i.nd.bop i.nd.d i.nd.e i.nd.a i.nd.b i.nd.f i.nd.cell i.nd.imm i.nd.args i.nd.next i.nd.els i.ao i.nd.args.length i.ac _ HWI.out.o0 HWI.out.o1 HWI.out.d HWI.out.e HWI.out.a HWI.out.b HWI.out.next HWI.out.els (HRN1.out.below (hb6.mono (by omega))).args rfl HWI.out.args HWI.out.al HRN1.out.cap (show B≤(wr.alloc (.cells #[.int .u8 i.nd.op,.int .u8 i.nd.bop,.int .i64 i.nd.d,.int .i64 i.nd.e,.int .i64 i.nd.a,.int .i64 i.nd.b,.int .i64 i.nd.f,.int .i64 i.nd.cell,.int .u64 i.nd.imm,.slice i.ao i.nd.args.length i.ac,.int .i64 i.nd.next,.int .i64 i.nd.els] 60)).heap.size by simp;omega))
   have HB6:=Lib.hid hb6
   rw [hno]
   have HNO:=Lib.hid hno
   clear hno hb6
   obtain ⟨xs,hxs⟩:∃ xs,xs=readsOf ⟨i.nd.op,i.nd.bop,i.nd.d,i.nd.e,i.nd.a,i.nd.b,i.nd.f,i.nd.cell,i.nd.imm,i.nd.args,i.nd.next,i.nd.els⟩:=⟨_,rfl⟩
   rw [← hxs] at HRE
   have HXS:Hid (xs=readsOf i.nd):=Lib.hid hxs
   clear hxs
   go_wp2_with (go_at_call 40;refine HRE.out.mono ?_;rintro e w5 ⟨A5,c5,rfl,hr5,hc5,hb5⟩;have HR5:=Lib.hid hr5;have HB5:=Lib.hid (HB6.out.trans (hb5.mono HB6.out.size));clear hr5 hb5)
   clear u0 u1 u2 u3 u4 u5 u6 u7 u8 u9 u10 u11 hbnr
   have hEr:=HB.out.eE
   have HBi:=Lib.hid (HB.out.on (HB5.out.mono hEr))
   have HKi:=Lib.hid (HK.out.below HB5.out hEr)
   obtain ⟨l,hl⟩:∃ l,l=xs.length:=⟨_,rfl⟩
   rw [← hl] at HR5 hc5 ⊢
   have HL:=Lib.hid hl
   have hlb:l≤140737488351232:=by rw [hl,HXS.out];exact llenr _ HWI.out.al
   obtain ⟨B7,hB7⟩:∃ b,b=w5.heap.size:=⟨_,rfl⟩
   rw [← hB7] at HR5
   have hB7':B7≤w5.heap.size:=by omega
   clear hl HB HK HRE HB6 hB7 HRN1
   go_loopw [21] (fun i wr=>∃ (j:Nat) (wss:List (List Nat)),j≤l∧i=.int .i64 j∧B7≤wr.heap.size∧Hid (BwI wr E base bb R1 R2 R n q nK vs ls wss)∧Hid (KpS w1 wr E R n)∧Hid (LvI (nds rn) wss k j)∧Hid (Reads wr B7 1 A5 l (i64c xs))) (fun i _=>l-(intOf i).toNat)
   case atStart=>exact ⟨0,wss,by omega,rfl,hB7',HBi,HKi,HLV,HR5⟩
   case round =>
    clear HBi HKi HR5 HLV hB7'
    obtain ⟨j,wss,hj,rfl,hB7,HB,HK,HLV,HR⟩:=hrel
    by_cases hjl:j<l
    ·obtain ⟨bx,ox,x,hxe,hbx,HXX,x1⟩:=HR.out.int hjl
     have hxm:(readsOf i.nd)[j]?=some x:=by rw [← HXS.out];exact HXX.out
     obtain ⟨hx0,hx1⟩:=HRI.out i.nd (List.mem_of_getElem? HXN.out) x (List.mem_of_getElem? hxm)
     obtain ⟨p,rfl⟩:∃ p:Nat,x=(p:Int):=⟨x.toNat,by omega⟩
     have HSP:=Lib.hid (spread_any E base bb R1 R2 R n q nK vs ls wss p k wr HB.out HLN.out hn HLB.out HLW.out HV.out (by omega) HXN.out (List.mem_of_getElem? hxm) (fun a ha=>HLV.out.clo p a ha))
     have HXM:=Lib.hid hxm
     rw [hxe]
     have HXE:=Lib.hid hxe
     clear hxe hxm hx0 hx1
     go_wp2_with (go_at_call 41;refine HSP.out.mono ?_;rintro e w7 ⟨rfl,wss7,hb7,hk7,hs7⟩;have HB7:=Lib.hid hb7;have HK7:=Lib.hid hk7;have HS7:=Lib.hid hs7;clear hb7 hk7 hs7)
     go_roundw
     case rel =>
      rw [← HXE.out]
      exact ⟨j+1,wss7,by omega,by go_num,by have:=HK7.out.size;omega,HB7,Lib.hid (HK.out.trans HK7.out HB.out.eE),Lib.hid (HLV.out.spread HXN.out HXM.out HS7.out),Lib.hid (reads_kps HR.out hB7 HK7.out HB.out.sets)⟩
     case measure=>simp [intOf];omega
    ·obtain rfl:l=j:=by omega
     have HNXT:=Lib.hid (HLV.out.next HXN.out (by rw [← HXS.out,← HL.out];exact Nat.le_refl _))
     go_wp2
     go_roundw
     case rel=>exact ⟨k+1,wss,by omega,by go_num,HB,HK,HNXT⟩
     case measure=>simp [intOf];omega
  ·have hkn:k=n:=by omega
   have HALL:Hid (∀ i p,hasS wss i p=true↔Live (nds rn) p i):=Lib.hid (by
    have h:=HLV.out
    rw [hkn,← HLN.out] at h
    exact h.all)
   have b2:wr.cell? ⟨bb,2,none⟩=some (.slice (some ⟨R,0,none⟩) n n):=HB.out.box.cell 2
   go_wp2
   go_ret
   exact ⟨R,wss,rfl,HB.out.sets,HALL.out,HBK.out,by have:=HL3.out;omega⟩
end Go.Proofs.YtepkogfiojkcpaaDoor
