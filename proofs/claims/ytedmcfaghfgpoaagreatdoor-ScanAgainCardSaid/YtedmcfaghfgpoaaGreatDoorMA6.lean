/-
  Texts of one seat, one behind the other: LOwn, LBk0, LNx, LBk1.
-/
import Derived.Deep.DeepCutAuto
import Derived.Deep.CutBlock
import Derived.Deep.RegionLaw
import Derived.Test.YtedmcfaghfgpoaaGreatDoorMA3
import Derived.Test.YtedmcfaghfgpoaaGreatDoorMA5

set_option linter.unusedVariables false
set_option linter.unusedSimpArgs false
set_option maxRecDepth 100000
set_option maxHeartbeats 51200000
namespace Go.Proofs.YtedmcfaghfgpoaaGreatDoor
open Go.ChangeShapes Go.WideShapes Go.ChangeAt Go.RowKit Go.Maps
def NewO (w:World) (l:List Int) (e:Ending) (w':World):Prop:=∃ (A:Option Addr) (c:Nat),e=.returned (.slice A l.length c)∧w'.ownsRow w.heap.size 3 1 (.slice A l.length c) l.length (i64c l)∧l.length≤c∧Below w.heap.size w w'
theorem NewO.mk' {w w' w1:World} {l l':List Int} {A:Option Addr} {n c:Nat} (hl:l=l') (hn:l.length=n) (hr:w'.ownsRow w1.heap.size 3 1 (.slice A n c) n (i64c l)) (hc:n≤c) (hb:Below w1.heap.size w1 w') (hw:Below w.heap.size w w1):NewO w l' (.returned (.slice A n c)) w':=by
 subst hl
 subst hn
 exact ⟨A,c,rfl,own_more hr hw.size,hc,hw.trans (hb.mono hw.size)⟩
theorem placesOf_own (B:Nat) (A:Option Addr) (n c:Nat) (zs:List Int) (w:World) (h:Reads w B 1 A n (i64c zs)) (hn:zs.length=n) (hz:∀ x ∈ zs,I64 x) (hB:B≤w.heap.size) (hnb:n*8≤140737488351232) :
  Calls Tryz.prog 71 #[.slice A n c] w (NewO w (addL [] zs)):=by
 have hmm:=@run_makeMap Tryz.prog
 obtain ⟨i0,hi,hz0,hz1,hz2⟩:=info_parts Tryz.info3
 have H:=Lib.hid h
 have HN:=Lib.hid hn
 have HZ:=Lib.hid hz
 clear h hn hz
 go_enter Tryz.func71,Tryz.ntmps71
 go_wp2
 go_loopw [3,12] (fun v i wr=>∃ k:Nat,k≤n∧i=.int .i64 k∧Hid (PlI w zs k v wr)) (fun _ i _=>n-(intOf i).toNat)
 case atStart=>exact ⟨0,Nat.zero_le _,rfl,⟨World.ownsMap_made _ _ _ _,World.ownsRow_nil _ _ _ _,(Below.refl _ _).alloc (Nat.le_refl _) _,by simp⟩⟩
 case round =>
  obtain ⟨k,hk,rfl,HI⟩:=hrel
  by_cases hlt:k<n
  ·obtain ⟨b,off,x,rfl,hb,HX,x1⟩:=(H.out.below (HI.out.below.mono hB)).int hlt
   have hwx:I64 x:=HZ.out x (List.mem_of_getElem? HX.out)
   have hkey:keyOf Tryz.prog 3 (.int .i64 x)=some (.int .i64 x):=keyOf_int_mk Tryz.underlying3 (wf_of hwx)
   have hal:=addL_len [] (zs.take k)
   have hws:=HI.out.lt
   have htk:(zs.take k).length=k:=by rw [List.length_take,HN.out];omega
   have hadd:addL [] (zs.take (k+1))=add1 (addL [] (zs.take k)) x:=by rw [take_at HX.out,addL_snoc]
   have hbr:b<wr.heap.size:=by have:=HI.out.below.size;omega
   have hmap:=HI.out.map
   have hrow:=HI.out.own
   simp only [List.length_nil,Nat.zero_add,htk] at hal
   have HADD:=Lib.hid hadd
   clear hadd htk
   have hhas:=has_setI (H:=Unit) (addL [] (zs.take k)) x
   by_cases hin:(addL [] (zs.take k)).contains x=true
   ·rw [hin] at hhas
    have hg:(addL [] (zs.take (k+1)))=addL [] (zs.take k):=by
     rw [HADD.out,add1,if_neg]
     rintro ⟨_,h2⟩
     exact h2 (by simpa using hin)
    have HG:=Lib.hid hg
    clear hg hin
    go_wp2_with (first
     | (at_lookup;refine wpList_lookup_own_unit _ rfl _ _ 156 rfl 3 157 law_int Tryz.underlying156 (zero_unit _) w.heap.size k _ rfl hmap _ _ rfl hkey ?_;rw [hhas])
     | go_in)
    go_roundw
    case rel=>exact ⟨k+1,by omega,by go_num,⟨by rw [HG.out];exact (hmap.alloc _).mono (Nat.le_succ _),by rw [HG.out];exact hrow.alloc _,HI.out.below.alloc HI.out.below.size _,by simp;omega⟩⟩
    case measure=>simp [intOf];omega
   ·have hin':(addL [] (zs.take k)).contains x=false:=by simpa using hin
    rw [hin'] at hhas
    by_cases hneg:x<0
    ·have hg:(addL [] (zs.take (k+1)))=addL [] (zs.take k):=by
      rw [HADD.out,add1,if_neg]
      rintro ⟨h2,_⟩
      omega
     have HG:=Lib.hid hg
     clear hg hin hin'
     have hd:decide (x<0)=true:=by simpa using hneg
     go_wp2_with (first
      | (at_lookup;refine wpList_lookup_own_unit _ rfl _ _ 156 rfl 3 157 law_int Tryz.underlying156 (zero_unit _) w.heap.size k _ rfl hmap _ _ rfl hkey ?_;rw [hhas])
      | go_in)
     go_roundw
     case rel=>exact ⟨k+1,by omega,by go_num,⟨by rw [HG.out];exact (hmap.alloc _).mono (Nat.le_succ _),by rw [HG.out];exact hrow.alloc _,HI.out.below.alloc HI.out.below.size _,by simp;omega⟩⟩
     case measure=>simp [intOf];omega
    ·have hg:(addL [] (zs.take (k+1)))=addL [] (zs.take k) ++ [x]:=by
      rw [HADD.out,add1,if_pos]
      exact ⟨by omega,by simpa using hin'⟩
     have HG:=Lib.hid hg
     clear hg hin hin'
     have hd:decide (x<0)=false:=by simpa using hneg
     go_wp2_with (first
      | (at_lookup;refine wpList_lookup_own_unit _ rfl _ _ 156 rfl 3 157 law_int Tryz.underlying156 (zero_unit _) w.heap.size k _ rfl hmap _ _ rfl hkey ?_;rw [hhas])
      | (at_mapUpdate;refine wpList_mapUpdate_own _ rfl _ _ _ 156 rfl 3 157 law_int Tryz.underlying156 (unitElem (H:=Unit)) w.heap.size k _ rfl (hmap.alloc _) (by unfold maxLen;omega) _ _ _ rfl rfl hkey _ [] unitElem_mk ?_;intro w1 hown1 hgrow1)
      | (at_builtin;refine wpList_append_own _ rfl _ _ 26 rfl (w.heap.size+1) 3 i0 (.int .i64 0) 1 8 Tryz.underlying26 hi hz0 hz1 hz2 rfl (by decide) _ _ _ rfl (((hrow.alloc _).kept hgrow1 (Or.inr (row_ne hrow (Nat.lt_succ_self _)).symm)).alloc _) ⟨w1.heap.size,0,none⟩ 1 1 [.int .i64 x] rfl rfl (cell_one_new _ _ _) (ints_oneCell .i64 [x]) (by unfold maxLen;omega) (by omega) (by have:=hgrow1.size;simp at this ⊢;omega) ?_;intro v' w2 hown' hgrow2 hnil2)
      | go_in)
     have hr1:=(hrow.alloc (.cells #[] 157)).kept hgrow1 (Or.inr (row_ne hrow (Nat.lt_succ_self _)).symm)
     have s1:=hgrow1.size
     have s2:=hgrow2.size
     simp at s1 s2
     go_roundw
     case rel =>
      refine ⟨k+1,by omega,by go_num,⟨?_,?_,?_,by omega⟩⟩
      ·rw [HG.out,setI_snoc]
       exact (hown1.alloc _).kept hgrow2 (row_ne hr1 (Nat.lt_succ_self _))
      ·rw [HG.out]
       simpa [i64c] using hown'
      ·exact ((((HI.out.below.alloc HI.out.below.size _).grown hgrow1 (by simp;omega) (fun j hj=>by cases hj;exact Nat.le_refl _)).alloc (by omega) _).grown hgrow2 (by simp;omega) (fun j hj=>Nat.le_trans (Nat.le_succ _) (hr1.lt j hj).1))
     case measure=>simp [intOf];omega
  ·obtain rfl:n=k:=by omega
   have hall:zs.take n=zs:=List.take_of_length_le (by rw [HN.out];omega)
   have hi2:=HI.out.own
   obtain ⟨A2,c2,rfl⟩:=own_slice hi2
   rw [hall] at hi2 ⊢
   have HR:Hid (wr.ownsRow w.heap.size 3 1 (.slice A2 (addL [] zs).length c2) (addL [] zs).length (i64c (addL [] zs))):=Lib.hid (own_more hi2 (Nat.le_succ _))
   have HC:Hid ((addL [] zs).length≤c2):=own_cap hi2
   have HBL:=Lib.hid HI.out.below
   clear hi2 hall
   go_wp2
   go_ret
   exact ⟨A2,c2,rfl,HR.out,HC.out,HBL.out⟩
theorem writes_own (B:Nat) (op bop d e a b f cell imm:Int) (args:List Int) (nx el:Int) (ao:Option Addr) (nA ac:Nat) (w:World) (ho0:0≤op) (ho1:op≤255) (hd:I64 d) (he:I64 e) (ha:I64 a) (hb:I64 b) (hn:I64 nx) (hel:I64 el) (hr:Reads w B 1 ao nA (i64c args)) (hl:args.length=nA) (hargs:∀ x ∈ args,I64 x) (hnA:nA*8≤140737488351232) (hnc:nA≤ac) (hB:B≤w.heap.size) :
  Calls Tryz.prog 47 #[.agg #[.int .u8 op,.int .u8 bop,.int .i64 d,.int .i64 e,.int .i64 a,.int .i64 b,.int .i64 f,.int .i64 cell,.int .u64 imm,.slice ao nA ac,.int .i64 nx,.int .i64 el]] w (NewO w (writesOf ⟨op,bop,d,e,a,b,f,cell,imm,args,nx,el⟩)):=by
 have H:=Lib.hid hr
 have HL:=Lib.hid hl
 have HA:=Lib.hid hargs
 have HW1:Hid (Below w.heap.size w (w.alloc (.cells #[.int .u8 op,.int .u8 bop,.int .i64 d,.int .i64 e,.int .i64 a,.int .i64 b,.int .i64 f,.int .i64 cell,.int .u64 imm,.slice ao nA ac,.int .i64 nx,.int .i64 el] 47))):=(Below.refl _ _).alloc (Nat.le_refl _) _
 have HH:Hid (Reads (w.alloc (.cells #[.int .u8 op,.int .u8 bop,.int .i64 d,.int .i64 e,.int .i64 a,.int .i64 b,.int .i64 f,.int .i64 cell,.int .u64 imm,.slice ao nA ac,.int .i64 nx,.int .i64 el] 47)) B 1 ao nA (i64c args)):=Lib.hid (hr.below (HW1.out.mono hB))
 have hB1:B≤(w.alloc (.cells #[.int .u8 op,.int .u8 bop,.int .i64 d,.int .i64 e,.int .i64 a,.int .i64 b,.int .i64 f,.int .i64 cell,.int .u64 imm,.slice ao nA ac,.int .i64 nx,.int .i64 el] 47)).heap.size:=by simp;omega
 have hz1:(w.alloc (.cells #[.int .u8 op,.int .u8 bop,.int .i64 d,.int .i64 e,.int .i64 a,.int .i64 b,.int .i64 f,.int .i64 cell,.int .u64 imm,.slice ao nA ac,.int .i64 nx,.int .i64 el] 47)).heap.size=w.heap.size+1:=by simp
 clear hr hl hargs
 rcases op_cases ho0 ho1 with rfl | rfl | rfl | rfl | rfl | rfl | rfl | rfl | rfl | rfl | rfl | rfl | rfl | rfl | rfl | rfl | rfl | rfl | hop
 ·have HLR:=Lib.hid (lit_reads (w.alloc (.cells #[.int .u8 1,.int .u8 bop,.int .i64 d,.int .i64 e,.int .i64 a,.int .i64 b,.int .i64 f,.int .i64 cell,.int .u64 imm,.slice ao nA ac,.int .i64 nx,.int .i64 el] 47)) 3 (i64c [d]) 1 rfl)
  have HWF:Hid (∀ x ∈ [d],I64 x):=Lib.hid (by intro x hx;simp at hx;subst hx;assumption)
  have HW2:Hid (Below w.heap.size w ((w.alloc (.cells #[.int .u8 1,.int .u8 bop,.int .i64 d,.int .i64 e,.int .i64 a,.int .i64 b,.int .i64 f,.int .i64 cell,.int .u64 imm,.slice ao nA ac,.int .i64 nx,.int .i64 el] 47)).alloc (.cells #[.int .i64 d] 3))):=HW1.out.alloc (by simp) _
  have hs2:w.heap.size+1+1≤((w.alloc (.cells #[.int .u8 1,.int .u8 bop,.int .i64 d,.int .i64 e,.int .i64 a,.int .i64 b,.int .i64 f,.int .i64 cell,.int .u64 imm,.slice ao nA ac,.int .i64 nx,.int .i64 el] 47)).alloc (.cells #[.int .i64 d] 3)).heap.size:=by simp
  rw [hz1] at HLR
  go_enter Tryz.func47,Tryz.ntmps47
  go_wp2_with (first | (go_at_call 71;refine (placesOf_own (w.heap.size+1+1) _ 1 _ [d] _ HLR.out rfl HWF.out hs2 (by omega)).mono ?_;rintro ee w2 ⟨A2,c2,rfl,hr2,hc2,hb2⟩;have HR2:=Lib.hid hr2;have HB2:=Lib.hid hb2;clear hr2 hb2))
  go_ret
  exact NewO.mk' rfl rfl HR2.out hc2 HB2.out HW2.out
 ·have HLR:=Lib.hid (lit_reads (w.alloc (.cells #[.int .u8 2,.int .u8 bop,.int .i64 d,.int .i64 e,.int .i64 a,.int .i64 b,.int .i64 f,.int .i64 cell,.int .u64 imm,.slice ao nA ac,.int .i64 nx,.int .i64 el] 47)) 3 (i64c [d]) 1 rfl)
  have HWF:Hid (∀ x ∈ [d],I64 x):=Lib.hid (by intro x hx;simp at hx;subst hx;assumption)
  have HW2:Hid (Below w.heap.size w ((w.alloc (.cells #[.int .u8 2,.int .u8 bop,.int .i64 d,.int .i64 e,.int .i64 a,.int .i64 b,.int .i64 f,.int .i64 cell,.int .u64 imm,.slice ao nA ac,.int .i64 nx,.int .i64 el] 47)).alloc (.cells #[.int .i64 d] 3))):=HW1.out.alloc (by simp) _
  have hs2:w.heap.size+1+1≤((w.alloc (.cells #[.int .u8 2,.int .u8 bop,.int .i64 d,.int .i64 e,.int .i64 a,.int .i64 b,.int .i64 f,.int .i64 cell,.int .u64 imm,.slice ao nA ac,.int .i64 nx,.int .i64 el] 47)).alloc (.cells #[.int .i64 d] 3)).heap.size:=by simp
  rw [hz1] at HLR
  go_enter Tryz.func47,Tryz.ntmps47
  go_wp2_with (first | (go_at_call 71;refine (placesOf_own (w.heap.size+1+1) _ 1 _ [d] _ HLR.out rfl HWF.out hs2 (by omega)).mono ?_;rintro ee w2 ⟨A2,c2,rfl,hr2,hc2,hb2⟩;have HR2:=Lib.hid hr2;have HB2:=Lib.hid hb2;clear hr2 hb2))
  go_ret
  exact NewO.mk' rfl rfl HR2.out hc2 HB2.out HW2.out
 ·have HLR:=Lib.hid (lit_reads (w.alloc (.cells #[.int .u8 3,.int .u8 bop,.int .i64 d,.int .i64 e,.int .i64 a,.int .i64 b,.int .i64 f,.int .i64 cell,.int .u64 imm,.slice ao nA ac,.int .i64 nx,.int .i64 el] 47)) 3 (i64c [d]) 1 rfl)
  have HWF:Hid (∀ x ∈ [d],I64 x):=Lib.hid (by intro x hx;simp at hx;subst hx;assumption)
  have HW2:Hid (Below w.heap.size w ((w.alloc (.cells #[.int .u8 3,.int .u8 bop,.int .i64 d,.int .i64 e,.int .i64 a,.int .i64 b,.int .i64 f,.int .i64 cell,.int .u64 imm,.slice ao nA ac,.int .i64 nx,.int .i64 el] 47)).alloc (.cells #[.int .i64 d] 3))):=HW1.out.alloc (by simp) _
  have hs2:w.heap.size+1+1≤((w.alloc (.cells #[.int .u8 3,.int .u8 bop,.int .i64 d,.int .i64 e,.int .i64 a,.int .i64 b,.int .i64 f,.int .i64 cell,.int .u64 imm,.slice ao nA ac,.int .i64 nx,.int .i64 el] 47)).alloc (.cells #[.int .i64 d] 3)).heap.size:=by simp
  rw [hz1] at HLR
  go_enter Tryz.func47,Tryz.ntmps47
  go_wp2_with (first | (go_at_call 71;refine (placesOf_own (w.heap.size+1+1) _ 1 _ [d] _ HLR.out rfl HWF.out hs2 (by omega)).mono ?_;rintro ee w2 ⟨A2,c2,rfl,hr2,hc2,hb2⟩;have HR2:=Lib.hid hr2;have HB2:=Lib.hid hb2;clear hr2 hb2))
  go_ret
  exact NewO.mk' rfl rfl HR2.out hc2 HB2.out HW2.out
 ·have HLR:=Lib.hid (lit_reads (w.alloc (.cells #[.int .u8 4,.int .u8 bop,.int .i64 d,.int .i64 e,.int .i64 a,.int .i64 b,.int .i64 f,.int .i64 cell,.int .u64 imm,.slice ao nA ac,.int .i64 nx,.int .i64 el] 47)) 3 (i64c [d]) 1 rfl)
  have HWF:Hid (∀ x ∈ [d],I64 x):=Lib.hid (by intro x hx;simp at hx;subst hx;assumption)
  have HW2:Hid (Below w.heap.size w ((w.alloc (.cells #[.int .u8 4,.int .u8 bop,.int .i64 d,.int .i64 e,.int .i64 a,.int .i64 b,.int .i64 f,.int .i64 cell,.int .u64 imm,.slice ao nA ac,.int .i64 nx,.int .i64 el] 47)).alloc (.cells #[.int .i64 d] 3))):=HW1.out.alloc (by simp) _
  have hs2:w.heap.size+1+1≤((w.alloc (.cells #[.int .u8 4,.int .u8 bop,.int .i64 d,.int .i64 e,.int .i64 a,.int .i64 b,.int .i64 f,.int .i64 cell,.int .u64 imm,.slice ao nA ac,.int .i64 nx,.int .i64 el] 47)).alloc (.cells #[.int .i64 d] 3)).heap.size:=by simp
  rw [hz1] at HLR
  go_enter Tryz.func47,Tryz.ntmps47
  go_wp2_with (first | (go_at_call 71;refine (placesOf_own (w.heap.size+1+1) _ 1 _ [d] _ HLR.out rfl HWF.out hs2 (by omega)).mono ?_;rintro ee w2 ⟨A2,c2,rfl,hr2,hc2,hb2⟩;have HR2:=Lib.hid hr2;have HB2:=Lib.hid hb2;clear hr2 hb2))
  go_ret
  exact NewO.mk' rfl rfl HR2.out hc2 HB2.out HW2.out
 ·go_enter Tryz.func47,Tryz.ntmps47
  go_wp2
  go_ret
  exact NewO.mk' (l:=[]) rfl rfl (own_none _ _ _ _) (Nat.le_refl _) (Below.refl _ _) HW1.out
 ·have HLR:=Lib.hid (lit_reads (w.alloc (.cells #[.int .u8 6,.int .u8 bop,.int .i64 d,.int .i64 e,.int .i64 a,.int .i64 b,.int .i64 f,.int .i64 cell,.int .u64 imm,.slice ao nA ac,.int .i64 nx,.int .i64 el] 47)) 3 (i64c [d]) 1 rfl)
  have HWF:Hid (∀ x ∈ [d],I64 x):=Lib.hid (by intro x hx;simp at hx;subst hx;assumption)
  have HW2:Hid (Below w.heap.size w ((w.alloc (.cells #[.int .u8 6,.int .u8 bop,.int .i64 d,.int .i64 e,.int .i64 a,.int .i64 b,.int .i64 f,.int .i64 cell,.int .u64 imm,.slice ao nA ac,.int .i64 nx,.int .i64 el] 47)).alloc (.cells #[.int .i64 d] 3))):=HW1.out.alloc (by simp) _
  have hs2:w.heap.size+1+1≤((w.alloc (.cells #[.int .u8 6,.int .u8 bop,.int .i64 d,.int .i64 e,.int .i64 a,.int .i64 b,.int .i64 f,.int .i64 cell,.int .u64 imm,.slice ao nA ac,.int .i64 nx,.int .i64 el] 47)).alloc (.cells #[.int .i64 d] 3)).heap.size:=by simp
  rw [hz1] at HLR
  go_enter Tryz.func47,Tryz.ntmps47
  go_wp2_with (first | (go_at_call 71;refine (placesOf_own (w.heap.size+1+1) _ 1 _ [d] _ HLR.out rfl HWF.out hs2 (by omega)).mono ?_;rintro ee w2 ⟨A2,c2,rfl,hr2,hc2,hb2⟩;have HR2:=Lib.hid hr2;have HB2:=Lib.hid hb2;clear hr2 hb2))
  go_ret
  exact NewO.mk' rfl rfl HR2.out hc2 HB2.out HW2.out
 ·have HLR:=Lib.hid (lit_reads (w.alloc (.cells #[.int .u8 7,.int .u8 bop,.int .i64 d,.int .i64 e,.int .i64 a,.int .i64 b,.int .i64 f,.int .i64 cell,.int .u64 imm,.slice ao nA ac,.int .i64 nx,.int .i64 el] 47)) 3 (i64c [d]) 1 rfl)
  have HWF:Hid (∀ x ∈ [d],I64 x):=Lib.hid (by intro x hx;simp at hx;subst hx;assumption)
  have HW2:Hid (Below w.heap.size w ((w.alloc (.cells #[.int .u8 7,.int .u8 bop,.int .i64 d,.int .i64 e,.int .i64 a,.int .i64 b,.int .i64 f,.int .i64 cell,.int .u64 imm,.slice ao nA ac,.int .i64 nx,.int .i64 el] 47)).alloc (.cells #[.int .i64 d] 3))):=HW1.out.alloc (by simp) _
  have hs2:w.heap.size+1+1≤((w.alloc (.cells #[.int .u8 7,.int .u8 bop,.int .i64 d,.int .i64 e,.int .i64 a,.int .i64 b,.int .i64 f,.int .i64 cell,.int .u64 imm,.slice ao nA ac,.int .i64 nx,.int .i64 el] 47)).alloc (.cells #[.int .i64 d] 3)).heap.size:=by simp
  rw [hz1] at HLR
  go_enter Tryz.func47,Tryz.ntmps47
  go_wp2_with (first | (go_at_call 71;refine (placesOf_own (w.heap.size+1+1) _ 1 _ [d] _ HLR.out rfl HWF.out hs2 (by omega)).mono ?_;rintro ee w2 ⟨A2,c2,rfl,hr2,hc2,hb2⟩;have HR2:=Lib.hid hr2;have HB2:=Lib.hid hb2;clear hr2 hb2))
  go_ret
  exact NewO.mk' rfl rfl HR2.out hc2 HB2.out HW2.out
 ·go_enter Tryz.func47,Tryz.ntmps47
  go_wp2
  go_ret
  exact NewO.mk' (l:=[]) rfl rfl (own_none _ _ _ _) (Nat.le_refl _) (Below.refl _ _) HW1.out
 ·go_enter Tryz.func47,Tryz.ntmps47
  go_wp2
  go_ret
  exact NewO.mk' (l:=[]) rfl rfl (own_none _ _ _ _) (Nat.le_refl _) (Below.refl _ _) HW1.out
 ·go_enter Tryz.func47,Tryz.ntmps47
  go_wp2
  go_ret
  exact NewO.mk' (l:=[]) rfl rfl (own_none _ _ _ _) (Nat.le_refl _) (Below.refl _ _) HW1.out
 ·have HLR:=Lib.hid (lit_reads (w.alloc (.cells #[.int .u8 11,.int .u8 bop,.int .i64 d,.int .i64 e,.int .i64 a,.int .i64 b,.int .i64 f,.int .i64 cell,.int .u64 imm,.slice ao nA ac,.int .i64 nx,.int .i64 el] 47)) 3 (i64c [d]) 1 rfl)
  have HWF:Hid (∀ x ∈ [d],I64 x):=Lib.hid (by intro x hx;simp at hx;subst hx;assumption)
  have HW2:Hid (Below w.heap.size w ((w.alloc (.cells #[.int .u8 11,.int .u8 bop,.int .i64 d,.int .i64 e,.int .i64 a,.int .i64 b,.int .i64 f,.int .i64 cell,.int .u64 imm,.slice ao nA ac,.int .i64 nx,.int .i64 el] 47)).alloc (.cells #[.int .i64 d] 3))):=HW1.out.alloc (by simp) _
  have hs2:w.heap.size+1+1≤((w.alloc (.cells #[.int .u8 11,.int .u8 bop,.int .i64 d,.int .i64 e,.int .i64 a,.int .i64 b,.int .i64 f,.int .i64 cell,.int .u64 imm,.slice ao nA ac,.int .i64 nx,.int .i64 el] 47)).alloc (.cells #[.int .i64 d] 3)).heap.size:=by simp
  rw [hz1] at HLR
  go_enter Tryz.func47,Tryz.ntmps47
  go_wp2_with (first | (go_at_call 71;refine (placesOf_own (w.heap.size+1+1) _ 1 _ [d] _ HLR.out rfl HWF.out hs2 (by omega)).mono ?_;rintro ee w2 ⟨A2,c2,rfl,hr2,hc2,hb2⟩;have HR2:=Lib.hid hr2;have HB2:=Lib.hid hb2;clear hr2 hb2))
  go_ret
  exact NewO.mk' rfl rfl HR2.out hc2 HB2.out HW2.out
 ·go_enter Tryz.func47,Tryz.ntmps47
  go_wp2
  go_ret
  exact NewO.mk' (l:=[]) rfl rfl (own_none _ _ _ _) (Nat.le_refl _) (Below.refl _ _) HW1.out
 ·go_enter Tryz.func47,Tryz.ntmps47
  go_wp2
  go_ret
  exact NewO.mk' (l:=[]) rfl rfl (own_none _ _ _ _) (Nat.le_refl _) (Below.refl _ _) HW1.out
 ·go_enter Tryz.func47,Tryz.ntmps47
  go_wp2
  go_ret
  exact NewO.mk' (l:=[]) rfl rfl (own_none _ _ _ _) (Nat.le_refl _) (Below.refl _ _) HW1.out
 ·have HLR:=Lib.hid (lit_reads (w.alloc (.cells #[.int .u8 15,.int .u8 bop,.int .i64 d,.int .i64 e,.int .i64 a,.int .i64 b,.int .i64 f,.int .i64 cell,.int .u64 imm,.slice ao nA ac,.int .i64 nx,.int .i64 el] 47)) 3 (i64c [d,e]) 2 rfl)
  have HWF:Hid (∀ x ∈ [d,e],I64 x):=Lib.hid (by intro x hx;simp at hx;rcases hx with rfl | rfl <;> assumption)
  have HW2:Hid (Below w.heap.size w ((w.alloc (.cells #[.int .u8 15,.int .u8 bop,.int .i64 d,.int .i64 e,.int .i64 a,.int .i64 b,.int .i64 f,.int .i64 cell,.int .u64 imm,.slice ao nA ac,.int .i64 nx,.int .i64 el] 47)).alloc (.cells #[.int .i64 d,.int .i64 e] 3))):=HW1.out.alloc (by simp) _
  have hs2:w.heap.size+1+1≤((w.alloc (.cells #[.int .u8 15,.int .u8 bop,.int .i64 d,.int .i64 e,.int .i64 a,.int .i64 b,.int .i64 f,.int .i64 cell,.int .u64 imm,.slice ao nA ac,.int .i64 nx,.int .i64 el] 47)).alloc (.cells #[.int .i64 d,.int .i64 e] 3)).heap.size:=by simp
  rw [hz1] at HLR
  go_enter Tryz.func47,Tryz.ntmps47
  go_wp2_with (first | (go_at_call 71;refine (placesOf_own (w.heap.size+1+1) _ 2 _ [d,e] _ HLR.out rfl HWF.out hs2 (by omega)).mono ?_;rintro ee w2 ⟨A2,c2,rfl,hr2,hc2,hb2⟩;have HR2:=Lib.hid hr2;have HB2:=Lib.hid hb2;clear hr2 hb2))
  go_ret
  exact NewO.mk' rfl rfl HR2.out hc2 HB2.out HW2.out
 ·have HLR:=Lib.hid (lit_reads (w.alloc (.cells #[.int .u8 16,.int .u8 bop,.int .i64 d,.int .i64 e,.int .i64 a,.int .i64 b,.int .i64 f,.int .i64 cell,.int .u64 imm,.slice ao nA ac,.int .i64 nx,.int .i64 el] 47)) 3 (i64c [d]) 1 rfl)
  have HWF:Hid (∀ x ∈ [d],I64 x):=Lib.hid (by intro x hx;simp at hx;subst hx;assumption)
  have HW2:Hid (Below w.heap.size w ((w.alloc (.cells #[.int .u8 16,.int .u8 bop,.int .i64 d,.int .i64 e,.int .i64 a,.int .i64 b,.int .i64 f,.int .i64 cell,.int .u64 imm,.slice ao nA ac,.int .i64 nx,.int .i64 el] 47)).alloc (.cells #[.int .i64 d] 3))):=HW1.out.alloc (by simp) _
  have hs2:w.heap.size+1+1≤((w.alloc (.cells #[.int .u8 16,.int .u8 bop,.int .i64 d,.int .i64 e,.int .i64 a,.int .i64 b,.int .i64 f,.int .i64 cell,.int .u64 imm,.slice ao nA ac,.int .i64 nx,.int .i64 el] 47)).alloc (.cells #[.int .i64 d] 3)).heap.size:=by simp
  rw [hz1] at HLR
  go_enter Tryz.func47,Tryz.ntmps47
  go_wp2_with (first | (go_at_call 71;refine (placesOf_own (w.heap.size+1+1) _ 1 _ [d] _ HLR.out rfl HWF.out hs2 (by omega)).mono ?_;rintro ee w2 ⟨A2,c2,rfl,hr2,hc2,hb2⟩;have HR2:=Lib.hid hr2;have HB2:=Lib.hid hb2;clear hr2 hb2))
  go_ret
  exact NewO.mk' rfl rfl HR2.out hc2 HB2.out HW2.out
 ·go_enter Tryz.func47,Tryz.ntmps47
  go_wp2
  go_ret
  exact NewO.mk' (l:=[]) rfl rfl (own_none _ _ _ _) (Nat.le_refl _) (Below.refl _ _) HW1.out
 ·go_enter Tryz.func47,Tryz.ntmps47
  go_wp2
  go_ret
  exact NewO.mk' (l:=[]) rfl rfl (own_none _ _ _ _) (Nat.le_refl _) (Below.refl _ _) HW1.out
 ·have hL:writesOf ⟨op,bop,d,e,a,b,f,cell,imm,args,nx,el⟩=[]:=by
   unfold writesOf
   simp only [writeF]
   repeat rw [if_neg (by omega)]
   rfl
  have HLL:=Lib.hid hL
  clear hL
  have g1:(op == 1)=false:=by simp;omega
  have g2:(op == 2)=false:=by simp;omega
  have g3:(op == 3)=false:=by simp;omega
  have g4:(op == 4)=false:=by simp;omega
  have g6:(op == 6)=false:=by simp;omega
  have g7:(op == 7)=false:=by simp;omega
  have g11:(op == 11)=false:=by simp;omega
  have g16:(op == 16)=false:=by simp;omega
  have g15:(op == 15)=false:=by simp;omega
  go_enter Tryz.func47,Tryz.ntmps47
  go_wp2
  go_ret
  exact NewO.mk' HLL.out.symm rfl (own_none _ _ _ _) (Nat.le_refl _) (Below.refl _ _) HW1.out
open Go.ChangeShapes Go.WideShapes Go.ChangeAt Go.RowKit
structure NbI (W:World) (bb R1 R2 R n q m:Nat) (vs:Nat→Value) (ls:Nat→List Int) (cs:Array Value) (wr:World):Prop where
 gr:Blk wr W.heap.size 35 cs
 box:Blk wr bb 123 #[.slice (some ⟨R1,0,none⟩) n n,.slice (some ⟨R2,0,none⟩) n n,.slice (some ⟨R,0,none⟩) n n]
 r1:Blk wr R1 26 (rowA n fun i=>vs (2*i))
 r2:Blk wr R2 26 (rowA n fun i=>vs (2*i+1))
 ne:R1≠R2
 fam:Fam wr W.heap.size (2*n) vs ls
 sets:SetsI wr R n q m (List.replicate n (List.replicate q 0))
 below:Below W.heap.size W wr
 l1:W.heap.size<R1
 l2:W.heap.size<R2
 l3:W.heap.size<R
 l4:W.heap.size<bb
structure Two (W:World) (a b R n q m:Nat) (cs:Array Value) (w3:World):Prop where
 gr:Blk w3 W.heap.size 35 cs
 ba:Blk w3 a 26 (madeCells #[.slice none 0 0] n)
 bb:Blk w3 b 26 (madeCells #[.slice none 0 0] n)
 ne:a≠b
 sets:SetsI w3 R n q m (List.replicate n (List.replicate q 0))
 below:Below W.heap.size W w3
 la:W.heap.size<a
 lb:W.heap.size<b
 lR:W.heap.size<R
section
variable {W wr w2 w3:World} {bb R1 R2 R n q m a b:Nat} {cs:Array Value}
theorem Two.swap (h:Two W a b R n q m cs w3):Two W b a R n q m cs w3:=⟨h.gr,h.bb,h.ba,h.ne.symm,h.sets,h.below,h.lb,h.la,h.lR⟩
theorem Two.mk0 (h:Two W R1 R2 R n q m cs w3) (hb:bb=w3.heap.size) :
  NbI W bb R1 R2 R n q m (fun _=>.slice none 0 0) (fun _=>[]) cs (w3.alloc (.cells #[.slice (some ⟨R1,0,none⟩) n n,.slice (some ⟨R2,0,none⟩) n n,.slice (some ⟨R,0,none⟩) n n] 123)):=by
 subst hb
 have h1:=h.ba
 have h2:=h.bb
 rw [rowA_made] at h1 h2
 exact ⟨h.gr.alloc _,Blk.new _ _ _,h1.alloc _,h2.alloc _,h.ne,Fam.nil _ _ _,h.sets.alloc _,h.below.alloc h.below.size _,h.la,h.lb,h.lR,h.gr.lt⟩
theorem Two.A (hs:SetsI w2 ((((W.alloc (.cells cs 35)).alloc (.cells (madeCells #[.slice none 0 0] n) 26)).alloc (.cells (madeCells #[.slice none 0 0] n) 26)).drew.heap.size+1) n q m (List.replicate n (List.replicate q 0))) (hb:Below (((W.alloc (.cells cs 35)).alloc (.cells (madeCells #[.slice none 0 0] n) 26)).alloc (.cells (madeCells #[.slice none 0 0] n) 26)).drew.heap.size (((W.alloc (.cells cs 35)).alloc (.cells (madeCells #[.slice none 0 0] n) 26)).alloc (.cells (madeCells #[.slice none 0 0] n) 26)).drew w2):Two W (W.heap.size+1) (W.heap.size+1+1) (W.heap.size+1+1+1+1) n q m cs w2:=by
 rw [show (((W.alloc (.cells cs 35)).alloc (.cells (madeCells #[.slice none 0 0] n) 26)).alloc (.cells (madeCells #[.slice none 0 0] n) 26)).drew.heap.size=W.heap.size+1+1+1 by simp] at hs hb
 have h1:=Blk.new (W.alloc (.cells cs 35)) 26 (madeCells #[.slice none 0 0] n)
 have h2:=Blk.new ((W.alloc (.cells cs 35)).alloc (.cells (madeCells #[.slice none 0 0] n) 26)) 26 (madeCells #[.slice none 0 0] n)
 rw [show (W.alloc (.cells cs 35)).heap.size=W.heap.size+1 by simp] at h1
 rw [show ((W.alloc (.cells cs 35)).alloc (.cells (madeCells #[.slice none 0 0] n) 26)).heap.size=W.heap.size+1+1 by simp] at h2
 exact ⟨(((Blk.new W _ _).alloc _).alloc _).drew.below hb (by omega),(h1.alloc _).drew.below hb (by omega),h2.drew.below hb (by omega),by omega,hs,((((Below.refl _ _).alloc (Nat.le_refl _) _).alloc (by simp) _).alloc (by simp;omega) _).drew.trans (hb.mono (by omega)),by omega,by omega,by omega⟩
theorem Two.B (hs:SetsI w2 (((W.alloc (.cells cs 35)).alloc (.cells (madeCells #[.slice none 0 0] n) 26)).drew.heap.size+1) n q m (List.replicate n (List.replicate q 0))) (hb:Below ((W.alloc (.cells cs 35)).alloc (.cells (madeCells #[.slice none 0 0] n) 26)).drew.heap.size ((W.alloc (.cells cs 35)).alloc (.cells (madeCells #[.slice none 0 0] n) 26)).drew w2) {z:Nat} (hz:w2.heap.size=z):Two W (W.heap.size+1) z (W.heap.size+1+1+1) n q m cs (w2.alloc (.cells (madeCells #[.slice none 0 0] n) 26)):=by
 rw [show ((W.alloc (.cells cs 35)).alloc (.cells (madeCells #[.slice none 0 0] n) 26)).drew.heap.size=W.heap.size+1+1 by simp] at hs hb
 subst hz
 have h1:=Blk.new (W.alloc (.cells cs 35)) 26 (madeCells #[.slice none 0 0] n)
 rw [show (W.alloc (.cells cs 35)).heap.size=W.heap.size+1 by simp] at h1
 have hz:=hb.size
 simp at hz
 exact ⟨(((Blk.new W _ _).alloc _).drew.below hb (by omega)).alloc _,(h1.drew.below hb (by omega)).alloc _,Blk.new _ _ _,by omega,hs.alloc _,((((Below.refl _ _).alloc (Nat.le_refl _) _).alloc (by simp) _).drew.trans (hb.mono (by omega))).alloc (by omega) _,by omega,by omega,by omega⟩
theorem Two.C (hs:SetsI w2 ((W.alloc (.cells cs 35)).drew.heap.size+1) n q m (List.replicate n (List.replicate q 0))) (hb:Below (W.alloc (.cells cs 35)).drew.heap.size (W.alloc (.cells cs 35)).drew w2) {z z':Nat} (hz:w2.heap.size=z) (hz':z'=z+1):Two W z z' (W.heap.size+1+1) n q m cs ((w2.alloc (.cells (madeCells #[.slice none 0 0] n) 26)).alloc (.cells (madeCells #[.slice none 0 0] n) 26)):=by
 rw [show (W.alloc (.cells cs 35)).drew.heap.size=W.heap.size+1 by simp] at hs hb
 subst hz
 subst hz'
 have h2:=Blk.new (w2.alloc (.cells (madeCells #[.slice none 0 0] n) 26)) 26 (madeCells #[.slice none 0 0] n)
 rw [show (w2.alloc (.cells (madeCells #[.slice none 0 0] n) 26)).heap.size=w2.heap.size+1 by simp] at h2
 have hz:=hb.size
 simp at hz
 exact ⟨(((Blk.new W _ _).drew.below hb (by omega)).alloc _).alloc _,(Blk.new _ _ _).alloc _,h2,by omega,(hs.alloc _).alloc _,((((Below.refl _ _).alloc (Nat.le_refl _) _).drew.trans (hb.mono (by omega))).alloc (by omega) _).alloc (by simp;omega) _,by omega,by omega,by omega⟩
end
theorem lit_own (w:World) (t:TypeId) (cs:List Value) (n:Nat) (hs:cs.length=n) (hm:n≤100:=by decide):(w.alloc (.cells cs.toArray t)).ownsRow w.heap.size t 1 (.slice (some ⟨w.heap.size,0,none⟩) n n) n cs:=by
 have h:=World.ownsRow_lit (base:=w.heap.size) (e:=t) (size:=1) w cs.toArray n (Nat.le_refl _) (by unfold maxLen;omega) (by simpa using hs)
 simpa using h
theorem NewO.mk2 {w w':World} {l l':List Int} {A:Option Addr} {n c b2:Nat} (hl:l=l') (hn:l.length=n) (hr:w'.ownsRow b2 3 1 (.slice A n c) n (i64c l)) (hb2:w.heap.size≤b2) (hc:n≤c) (hw:Below w.heap.size w w'):NewO w l' (.returned (.slice A n c)) w':=by
 subst hl
 subst hn
 exact ⟨A,c,rfl,own_more hr hb2,hc,hw⟩
theorem gnext_own (op bop d e a b f cell imm:Int) (args:List Int) (nx el:Int) (ao:Option Addr) (nA ac:Nat) (w:World) (ho0:0≤op) (ho1:op≤255) :
  Calls Tryz.prog 69 #[.agg #[.int .u8 op,.int .u8 bop,.int .i64 d,.int .i64 e,.int .i64 a,.int .i64 b,.int .i64 f,.int .i64 cell,.int .u64 imm,.slice ao nA ac,.int .i64 nx,.int .i64 el]] w (NewO w (nextsOf ⟨op,bop,d,e,a,b,f,cell,imm,args,nx,el⟩)):=by
 have HW1:Hid (Below w.heap.size w (w.alloc (.cells #[.int .u8 op,.int .u8 bop,.int .i64 d,.int .i64 e,.int .i64 a,.int .i64 b,.int .i64 f,.int .i64 cell,.int .u64 imm,.slice ao nA ac,.int .i64 nx,.int .i64 el] 47))):=(Below.refl _ _).alloc (Nat.le_refl _) _
 have hz1:(w.alloc (.cells #[.int .u8 op,.int .u8 bop,.int .i64 d,.int .i64 e,.int .i64 a,.int .i64 b,.int .i64 f,.int .i64 cell,.int .u64 imm,.slice ao nA ac,.int .i64 nx,.int .i64 el] 47)).heap.size=w.heap.size+1:=by simp
 rcases op_cases ho0 ho1 with rfl | rfl | rfl | rfl | rfl | rfl | rfl | rfl | rfl | rfl | rfl | rfl | rfl | rfl | rfl | rfl | rfl | rfl | hop
 ·have HLR:=Lib.hid (lit_own (w.alloc (.cells #[.int .u8 1,.int .u8 bop,.int .i64 d,.int .i64 e,.int .i64 a,.int .i64 b,.int .i64 f,.int .i64 cell,.int .u64 imm,.slice ao nA ac,.int .i64 nx,.int .i64 el] 47)) 3 (i64c [nx]) 1 rfl)
  have HW2:Hid (Below w.heap.size w ((w.alloc (.cells #[.int .u8 1,.int .u8 bop,.int .i64 d,.int .i64 e,.int .i64 a,.int .i64 b,.int .i64 f,.int .i64 cell,.int .u64 imm,.slice ao nA ac,.int .i64 nx,.int .i64 el] 47)).alloc (.cells #[.int .i64 nx] 3))):=HW1.out.alloc (by simp) _
  rw [hz1] at HLR
  go_enter Tryz.func69,Tryz.ntmps69
  go_wp2
  go_ret
  exact NewO.mk2 (l:=[nx]) rfl rfl HLR.out (by omega) (Nat.le_refl _) HW2.out
 ·have HLR:=Lib.hid (lit_own (w.alloc (.cells #[.int .u8 2,.int .u8 bop,.int .i64 d,.int .i64 e,.int .i64 a,.int .i64 b,.int .i64 f,.int .i64 cell,.int .u64 imm,.slice ao nA ac,.int .i64 nx,.int .i64 el] 47)) 3 (i64c [nx]) 1 rfl)
  have HW2:Hid (Below w.heap.size w ((w.alloc (.cells #[.int .u8 2,.int .u8 bop,.int .i64 d,.int .i64 e,.int .i64 a,.int .i64 b,.int .i64 f,.int .i64 cell,.int .u64 imm,.slice ao nA ac,.int .i64 nx,.int .i64 el] 47)).alloc (.cells #[.int .i64 nx] 3))):=HW1.out.alloc (by simp) _
  rw [hz1] at HLR
  go_enter Tryz.func69,Tryz.ntmps69
  go_wp2
  go_ret
  exact NewO.mk2 (l:=[nx]) rfl rfl HLR.out (by omega) (Nat.le_refl _) HW2.out
 ·have HLR:=Lib.hid (lit_own (w.alloc (.cells #[.int .u8 3,.int .u8 bop,.int .i64 d,.int .i64 e,.int .i64 a,.int .i64 b,.int .i64 f,.int .i64 cell,.int .u64 imm,.slice ao nA ac,.int .i64 nx,.int .i64 el] 47)) 3 (i64c [nx]) 1 rfl)
  have HW2:Hid (Below w.heap.size w ((w.alloc (.cells #[.int .u8 3,.int .u8 bop,.int .i64 d,.int .i64 e,.int .i64 a,.int .i64 b,.int .i64 f,.int .i64 cell,.int .u64 imm,.slice ao nA ac,.int .i64 nx,.int .i64 el] 47)).alloc (.cells #[.int .i64 nx] 3))):=HW1.out.alloc (by simp) _
  rw [hz1] at HLR
  go_enter Tryz.func69,Tryz.ntmps69
  go_wp2
  go_ret
  exact NewO.mk2 (l:=[nx]) rfl rfl HLR.out (by omega) (Nat.le_refl _) HW2.out
 ·have HLR:=Lib.hid (lit_own (w.alloc (.cells #[.int .u8 4,.int .u8 bop,.int .i64 d,.int .i64 e,.int .i64 a,.int .i64 b,.int .i64 f,.int .i64 cell,.int .u64 imm,.slice ao nA ac,.int .i64 nx,.int .i64 el] 47)) 3 (i64c [nx]) 1 rfl)
  have HW2:Hid (Below w.heap.size w ((w.alloc (.cells #[.int .u8 4,.int .u8 bop,.int .i64 d,.int .i64 e,.int .i64 a,.int .i64 b,.int .i64 f,.int .i64 cell,.int .u64 imm,.slice ao nA ac,.int .i64 nx,.int .i64 el] 47)).alloc (.cells #[.int .i64 nx] 3))):=HW1.out.alloc (by simp) _
  rw [hz1] at HLR
  go_enter Tryz.func69,Tryz.ntmps69
  go_wp2
  go_ret
  exact NewO.mk2 (l:=[nx]) rfl rfl HLR.out (by omega) (Nat.le_refl _) HW2.out
 ·have HLR:=Lib.hid (lit_own (w.alloc (.cells #[.int .u8 5,.int .u8 bop,.int .i64 d,.int .i64 e,.int .i64 a,.int .i64 b,.int .i64 f,.int .i64 cell,.int .u64 imm,.slice ao nA ac,.int .i64 nx,.int .i64 el] 47)) 3 (i64c [nx]) 1 rfl)
  have HW2:Hid (Below w.heap.size w ((w.alloc (.cells #[.int .u8 5,.int .u8 bop,.int .i64 d,.int .i64 e,.int .i64 a,.int .i64 b,.int .i64 f,.int .i64 cell,.int .u64 imm,.slice ao nA ac,.int .i64 nx,.int .i64 el] 47)).alloc (.cells #[.int .i64 nx] 3))):=HW1.out.alloc (by simp) _
  rw [hz1] at HLR
  go_enter Tryz.func69,Tryz.ntmps69
  go_wp2
  go_ret
  exact NewO.mk2 (l:=[nx]) rfl rfl HLR.out (by omega) (Nat.le_refl _) HW2.out
 ·have HLR:=Lib.hid (lit_own (w.alloc (.cells #[.int .u8 6,.int .u8 bop,.int .i64 d,.int .i64 e,.int .i64 a,.int .i64 b,.int .i64 f,.int .i64 cell,.int .u64 imm,.slice ao nA ac,.int .i64 nx,.int .i64 el] 47)) 3 (i64c [nx]) 1 rfl)
  have HW2:Hid (Below w.heap.size w ((w.alloc (.cells #[.int .u8 6,.int .u8 bop,.int .i64 d,.int .i64 e,.int .i64 a,.int .i64 b,.int .i64 f,.int .i64 cell,.int .u64 imm,.slice ao nA ac,.int .i64 nx,.int .i64 el] 47)).alloc (.cells #[.int .i64 nx] 3))):=HW1.out.alloc (by simp) _
  rw [hz1] at HLR
  go_enter Tryz.func69,Tryz.ntmps69
  go_wp2
  go_ret
  exact NewO.mk2 (l:=[nx]) rfl rfl HLR.out (by omega) (Nat.le_refl _) HW2.out
 ·have HLR:=Lib.hid (lit_own (w.alloc (.cells #[.int .u8 7,.int .u8 bop,.int .i64 d,.int .i64 e,.int .i64 a,.int .i64 b,.int .i64 f,.int .i64 cell,.int .u64 imm,.slice ao nA ac,.int .i64 nx,.int .i64 el] 47)) 3 (i64c [nx]) 1 rfl)
  have HW2:Hid (Below w.heap.size w ((w.alloc (.cells #[.int .u8 7,.int .u8 bop,.int .i64 d,.int .i64 e,.int .i64 a,.int .i64 b,.int .i64 f,.int .i64 cell,.int .u64 imm,.slice ao nA ac,.int .i64 nx,.int .i64 el] 47)).alloc (.cells #[.int .i64 nx] 3))):=HW1.out.alloc (by simp) _
  rw [hz1] at HLR
  go_enter Tryz.func69,Tryz.ntmps69
  go_wp2
  go_ret
  exact NewO.mk2 (l:=[nx]) rfl rfl HLR.out (by omega) (Nat.le_refl _) HW2.out
 ·have HLR:=Lib.hid (lit_own (w.alloc (.cells #[.int .u8 8,.int .u8 bop,.int .i64 d,.int .i64 e,.int .i64 a,.int .i64 b,.int .i64 f,.int .i64 cell,.int .u64 imm,.slice ao nA ac,.int .i64 nx,.int .i64 el] 47)) 3 (i64c [nx]) 1 rfl)
  have HW2:Hid (Below w.heap.size w ((w.alloc (.cells #[.int .u8 8,.int .u8 bop,.int .i64 d,.int .i64 e,.int .i64 a,.int .i64 b,.int .i64 f,.int .i64 cell,.int .u64 imm,.slice ao nA ac,.int .i64 nx,.int .i64 el] 47)).alloc (.cells #[.int .i64 nx] 3))):=HW1.out.alloc (by simp) _
  rw [hz1] at HLR
  go_enter Tryz.func69,Tryz.ntmps69
  go_wp2
  go_ret
  exact NewO.mk2 (l:=[nx]) rfl rfl HLR.out (by omega) (Nat.le_refl _) HW2.out
 ·by_cases hne:el=nx
  ·have hg:(el != nx)=false:=by simpa using hne
   have HE:=Lib.hid hne
   clear hne
   have HLR:=Lib.hid (lit_own (w.alloc (.cells #[.int .u8 9,.int .u8 bop,.int .i64 d,.int .i64 e,.int .i64 a,.int .i64 b,.int .i64 f,.int .i64 cell,.int .u64 imm,.slice ao nA ac,.int .i64 nx,.int .i64 el] 47)) 3 (i64c [nx]) 1 rfl)
   have HW2:Hid (Below w.heap.size w ((w.alloc (.cells #[.int .u8 9,.int .u8 bop,.int .i64 d,.int .i64 e,.int .i64 a,.int .i64 b,.int .i64 f,.int .i64 cell,.int .u64 imm,.slice ao nA ac,.int .i64 nx,.int .i64 el] 47)).alloc (.cells #[.int .i64 nx] 3))):=HW1.out.alloc (by simp) _
   rw [hz1] at HLR
   go_enter Tryz.func69,Tryz.ntmps69
   go_wp2
   go_ret
   exact NewO.mk2 (l:=[nx]) (by unfold nextsOf;simp [HE.out]) rfl HLR.out (by omega) (Nat.le_refl _) HW2.out
  ·have hg:(el != nx)=true:=by simpa using hne
   have HE:=Lib.hid hne
   clear hne
   have HLR:=Lib.hid (lit_own (w.alloc (.cells #[.int .u8 9,.int .u8 bop,.int .i64 d,.int .i64 e,.int .i64 a,.int .i64 b,.int .i64 f,.int .i64 cell,.int .u64 imm,.slice ao nA ac,.int .i64 nx,.int .i64 el] 47)) 3 (i64c [nx,el]) 2 rfl)
   have HW2:Hid (Below w.heap.size w ((w.alloc (.cells #[.int .u8 9,.int .u8 bop,.int .i64 d,.int .i64 e,.int .i64 a,.int .i64 b,.int .i64 f,.int .i64 cell,.int .u64 imm,.slice ao nA ac,.int .i64 nx,.int .i64 el] 47)).alloc (.cells #[.int .i64 nx,.int .i64 el] 3))):=HW1.out.alloc (by simp) _
   rw [hz1] at HLR
   go_enter Tryz.func69,Tryz.ntmps69
   go_wp2
   go_ret
   exact NewO.mk2 (l:=[nx,el]) (by unfold nextsOf;simp [HE.out]) rfl HLR.out (by omega) (Nat.le_refl _) HW2.out
 ·have HLR:=Lib.hid (lit_own (w.alloc (.cells #[.int .u8 10,.int .u8 bop,.int .i64 d,.int .i64 e,.int .i64 a,.int .i64 b,.int .i64 f,.int .i64 cell,.int .u64 imm,.slice ao nA ac,.int .i64 nx,.int .i64 el] 47)) 3 (i64c [nx]) 1 rfl)
  have HW2:Hid (Below w.heap.size w ((w.alloc (.cells #[.int .u8 10,.int .u8 bop,.int .i64 d,.int .i64 e,.int .i64 a,.int .i64 b,.int .i64 f,.int .i64 cell,.int .u64 imm,.slice ao nA ac,.int .i64 nx,.int .i64 el] 47)).alloc (.cells #[.int .i64 nx] 3))):=HW1.out.alloc (by simp) _
  rw [hz1] at HLR
  go_enter Tryz.func69,Tryz.ntmps69
  go_wp2
  go_ret
  exact NewO.mk2 (l:=[nx]) rfl rfl HLR.out (by omega) (Nat.le_refl _) HW2.out
 ·have HLR:=Lib.hid (lit_own (w.alloc (.cells #[.int .u8 11,.int .u8 bop,.int .i64 d,.int .i64 e,.int .i64 a,.int .i64 b,.int .i64 f,.int .i64 cell,.int .u64 imm,.slice ao nA ac,.int .i64 nx,.int .i64 el] 47)) 3 (i64c [nx]) 1 rfl)
  have HW2:Hid (Below w.heap.size w ((w.alloc (.cells #[.int .u8 11,.int .u8 bop,.int .i64 d,.int .i64 e,.int .i64 a,.int .i64 b,.int .i64 f,.int .i64 cell,.int .u64 imm,.slice ao nA ac,.int .i64 nx,.int .i64 el] 47)).alloc (.cells #[.int .i64 nx] 3))):=HW1.out.alloc (by simp) _
  rw [hz1] at HLR
  go_enter Tryz.func69,Tryz.ntmps69
  go_wp2
  go_ret
  exact NewO.mk2 (l:=[nx]) rfl rfl HLR.out (by omega) (Nat.le_refl _) HW2.out
 ·go_enter Tryz.func69,Tryz.ntmps69
  go_wp2
  go_ret
  exact NewO.mk2 (l:=[]) rfl rfl (own_none _ w.heap.size _ _) (Nat.le_refl _) (Nat.le_refl _) HW1.out
 ·have HLR:=Lib.hid (lit_own (w.alloc (.cells #[.int .u8 13,.int .u8 bop,.int .i64 d,.int .i64 e,.int .i64 a,.int .i64 b,.int .i64 f,.int .i64 cell,.int .u64 imm,.slice ao nA ac,.int .i64 nx,.int .i64 el] 47)) 3 (i64c [nx]) 1 rfl)
  have HW2:Hid (Below w.heap.size w ((w.alloc (.cells #[.int .u8 13,.int .u8 bop,.int .i64 d,.int .i64 e,.int .i64 a,.int .i64 b,.int .i64 f,.int .i64 cell,.int .u64 imm,.slice ao nA ac,.int .i64 nx,.int .i64 el] 47)).alloc (.cells #[.int .i64 nx] 3))):=HW1.out.alloc (by simp) _
  rw [hz1] at HLR
  go_enter Tryz.func69,Tryz.ntmps69
  go_wp2
  go_ret
  exact NewO.mk2 (l:=[nx]) rfl rfl HLR.out (by omega) (Nat.le_refl _) HW2.out
 ·go_enter Tryz.func69,Tryz.ntmps69
  go_wp2
  go_ret
  exact NewO.mk2 (l:=[]) rfl rfl (own_none _ w.heap.size _ _) (Nat.le_refl _) (Nat.le_refl _) HW1.out
 ·have HLR:=Lib.hid (lit_own (w.alloc (.cells #[.int .u8 15,.int .u8 bop,.int .i64 d,.int .i64 e,.int .i64 a,.int .i64 b,.int .i64 f,.int .i64 cell,.int .u64 imm,.slice ao nA ac,.int .i64 nx,.int .i64 el] 47)) 3 (i64c [nx]) 1 rfl)
  have HW2:Hid (Below w.heap.size w ((w.alloc (.cells #[.int .u8 15,.int .u8 bop,.int .i64 d,.int .i64 e,.int .i64 a,.int .i64 b,.int .i64 f,.int .i64 cell,.int .u64 imm,.slice ao nA ac,.int .i64 nx,.int .i64 el] 47)).alloc (.cells #[.int .i64 nx] 3))):=HW1.out.alloc (by simp) _
  rw [hz1] at HLR
  go_enter Tryz.func69,Tryz.ntmps69
  go_wp2
  go_ret
  exact NewO.mk2 (l:=[nx]) rfl rfl HLR.out (by omega) (Nat.le_refl _) HW2.out
 ·have HLR:=Lib.hid (lit_own (w.alloc (.cells #[.int .u8 16,.int .u8 bop,.int .i64 d,.int .i64 e,.int .i64 a,.int .i64 b,.int .i64 f,.int .i64 cell,.int .u64 imm,.slice ao nA ac,.int .i64 nx,.int .i64 el] 47)) 3 (i64c [nx]) 1 rfl)
  have HW2:Hid (Below w.heap.size w ((w.alloc (.cells #[.int .u8 16,.int .u8 bop,.int .i64 d,.int .i64 e,.int .i64 a,.int .i64 b,.int .i64 f,.int .i64 cell,.int .u64 imm,.slice ao nA ac,.int .i64 nx,.int .i64 el] 47)).alloc (.cells #[.int .i64 nx] 3))):=HW1.out.alloc (by simp) _
  rw [hz1] at HLR
  go_enter Tryz.func69,Tryz.ntmps69
  go_wp2
  go_ret
  exact NewO.mk2 (l:=[nx]) rfl rfl HLR.out (by omega) (Nat.le_refl _) HW2.out
 ·have HLR:=Lib.hid (lit_own (w.alloc (.cells #[.int .u8 17,.int .u8 bop,.int .i64 d,.int .i64 e,.int .i64 a,.int .i64 b,.int .i64 f,.int .i64 cell,.int .u64 imm,.slice ao nA ac,.int .i64 nx,.int .i64 el] 47)) 3 (i64c [nx]) 1 rfl)
  have HW2:Hid (Below w.heap.size w ((w.alloc (.cells #[.int .u8 17,.int .u8 bop,.int .i64 d,.int .i64 e,.int .i64 a,.int .i64 b,.int .i64 f,.int .i64 cell,.int .u64 imm,.slice ao nA ac,.int .i64 nx,.int .i64 el] 47)).alloc (.cells #[.int .i64 nx] 3))):=HW1.out.alloc (by simp) _
  rw [hz1] at HLR
  go_enter Tryz.func69,Tryz.ntmps69
  go_wp2
  go_ret
  exact NewO.mk2 (l:=[nx]) rfl rfl HLR.out (by omega) (Nat.le_refl _) HW2.out
 ·go_enter Tryz.func69,Tryz.ntmps69
  go_wp2
  go_ret
  exact NewO.mk2 (l:=[]) rfl rfl (own_none _ w.heap.size _ _) (Nat.le_refl _) (Nat.le_refl _) HW1.out
 ·have HLL:Hid (nextsOf ⟨op,bop,d,e,a,b,f,cell,imm,args,nx,el⟩=[]):=Lib.hid (by unfold nextsOf;rw [if_pos];show op<1∨18<op∨op=12∨op=14∨op=18;omega)
  have g12:(op == 12)=false:=by simp;omega
  have g14:(op == 14)=false:=by simp;omega
  have g18:(op == 18)=false:=by simp;omega
  have g9:(op == 9)=false:=by simp;omega
  have q1:decide (op≥1)=true∧decide (op≤18)=false∨decide (op≥1)=false:=by simp;omega
  have q2:decide (op<1)=true∨decide (op<1)=false∧decide (op > 18)=true:=by simp;omega
  rcases q1 with ⟨q1,q1'⟩ | q1 <;> rcases q2 with q2 | ⟨q2,q2'⟩
  all_goals
   go_enter Tryz.func69,Tryz.ntmps69
   go_wp2
   go_ret
   exact NewO.mk2 HLL.out.symm rfl (own_none _ w.heap.size _ _) (Nat.le_refl _) (Nat.le_refl _) HW1.out

section
variable {W wr w':World} {bb R1 R2 R n q m:Nat} {vs:Nat→Value} {ls:Nat→List Int} {cs:Array Value}
theorem NbI.on (h:NbI W bb R1 R2 R n q m vs ls cs wr) (hb:Below wr.heap.size wr w'):NbI W bb R1 R2 R n q m vs ls cs w' :=
 ⟨h.gr.below hb h.gr.lt,h.box.below hb h.box.lt,h.r1.below hb h.r1.lt,h.r2.below hb h.r2.lt,h.ne,h.fam.below hb,h.sets.below hb,h.below.trans (hb.mono h.below.size),h.l1,h.l2,h.l3,h.l4⟩
theorem NbI.alloc (h:NbI W bb R1 R2 R n q m vs ls cs wr) (o:Obj):NbI W bb R1 R2 R n q m vs ls cs (wr.alloc o):=h.on ((Below.refl _ _).alloc (Nat.le_refl _) _)
theorem NbI.drew (h:NbI W bb R1 R2 R n q m vs ls cs wr):NbI W bb R1 R2 R n q m vs ls cs wr.drew:=h.on (Below.refl _ _).drew
theorem NbI.put {v':Value} {l':List Int} {k b2:Nat} (h:NbI W bb R1 R2 R n q m vs ls cs wr) (hk:k<n) (hb:Below wr.heap.size wr w') (hown:w'.ownsRow b2 3 1 v' l'.length (i64c l')) (hb2:wr.heap.size≤b2) :
  NbI W bb R1 R2 R n q m (upd vs (2*k+1) v') (upd ls (2*k+1) l') cs (w'.setCell ⟨R2,k,none⟩ v'):=by
 have h':=h.on hb
 have l2:=h.l2
 have hz:=h.below.size
 refine ⟨h'.gr.far (p:=⟨R2,k,none⟩) (by show W.heap.size≠R2;omega) _,?_,?_,?_,h.ne,?_,?_,h'.below.setCell (p:=⟨R2,k,none⟩) (by show W.heap.size≤R2;omega) _,h.l1,h.l2,h.l3,h.l4⟩
 ·exact h'.box.far (p:=⟨R2,k,none⟩) (Blk.ne_ h'.box h'.r2 (by decide)) _
 ·rw [rowA_congr (g:=fun i=>vs (2*i)) fun i hi=>upd_ne (by omega)]
  exact h'.r1.far (p:=⟨R2,k,none⟩) h.ne _
 ·have h1:=h'.r2.set_ k v'
  rw [rowA_set] at h1
  rw [rowA_congr (g:=upd (fun i=>vs (2*i+1)) k v') fun i hi=>by
   unfold upd
   by_cases e:i=k
   ·subst e
    rw [if_pos rfl,if_pos rfl]
   ·rw [if_neg e,if_neg (by omega)]]
  exact h1
 ·exact (h.fam.put (i:=2*k+1) (by omega) hb hown hb2 (by omega)).far h'.r2 (by decide) k v'
 ·exact ⟨h'.sets.row.far (p:=⟨R2,k,none⟩) (Blk.ne_ h'.sets.row h'.r2 (by decide)) _,fun i hi=>(h'.sets.box i hi).far (p:=⟨R2,k,none⟩) (Blk.ne_ (h'.sets.box i hi) h'.r2 (by decide)) _,fun i hi=>(h'.sets.words i hi).far (p:=⟨R2,k,none⟩) (Blk.ne_ (h'.sets.words i hi) h'.r2 (by decide)) _,h'.sets.wf,h'.sets.qm,h'.sets.mb⟩
theorem NbI.push {v':Value} {l':List Int} {x:Nat} (h:NbI W bb R1 R2 R n q m vs ls cs wr) (hx:x<n) (hown:w'.ownsRow W.heap.size 3 1 v' l'.length (i64c l')) (hg:wr.grownBy w' (vs (2*x)).ownBlock) (hor:v'.ownBlock=(vs (2*x)).ownBlock∨v'.ownBlock=some wr.heap.size) :
  NbI W bb R1 R2 R n q m (upd vs (2*x) v') (upd ls (2*x) l') cs (w'.setCell ⟨R1,x,none⟩ v')∧w'.frozen? ⟨R1,x,none⟩=false∧∃ y,w'.cell? ⟨R1,x,none⟩=some y:=by
 have l1:=h.l1
 have hz:=h.below.size
 have ho:=h.fam.own (2*x) (by omega)
 have kb:∀ {g:Nat} {t:TypeId} {c:Array Value},Blk wr g t c→3≠t→Blk w' g t c:=fun hb ht=>blk_grown hb ho hg ht
 have b1:=kb h.r1 (by decide)
 have hf:=h.fam.push (i:=2*x) (by omega) hown hg hor
 refine ⟨⟨(kb h.gr (by decide)).far (p:=⟨R1,x,none⟩) (by show W.heap.size≠R1;omega) _,?_,?_,?_,h.ne,?_,?_,(h.below.grown hg hz fun g he=>(own_block_le ho he).1).setCell (p:=⟨R1,x,none⟩) (by show W.heap.size≤R1;omega) _,h.l1,h.l2,h.l3,h.l4⟩,b1.frozen x,⟨_,(b1.cell x).trans (rowA_at _ hx)⟩⟩
 ·exact (kb h.box (by decide)).far (p:=⟨R1,x,none⟩) (Blk.ne_ h.box h.r1 (by decide)) _
 ·have h1:=b1.set_ x v'
  rw [rowA_set] at h1
  rw [rowA_congr (g:=upd (fun i=>vs (2*i)) x v') fun i hi=>by
   unfold upd
   by_cases e:i=x
   ·subst e
    rw [if_pos rfl,if_pos rfl]
   ·rw [if_neg e,if_neg (by omega)]]
  exact h1
 ·rw [rowA_congr (g:=fun i=>vs (2*i+1)) fun i hi=>upd_ne (by omega)]
  exact (kb h.r2 (by decide)).far (p:=⟨R1,x,none⟩) h.ne.symm _
 ·exact hf.far b1 (by decide) x v'
 ·exact ⟨(kb h.sets.row (by decide)).far (p:=⟨R1,x,none⟩) (Blk.ne_ h.sets.row h.r1 (by decide)) _,fun i hi=>(kb (h.sets.box i hi) (by decide)).far (p:=⟨R1,x,none⟩) (Blk.ne_ (h.sets.box i hi) h.r1 (by decide)) _,fun i hi=>(kb (h.sets.words i hi) (by decide)).far (p:=⟨R1,x,none⟩) (Blk.ne_ (h.sets.words i hi) h.r1 (by decide)) _,h.sets.wf,h.sets.qm,h.sets.mb⟩
end
end Go.Proofs.YtedmcfaghfgpoaaGreatDoor
