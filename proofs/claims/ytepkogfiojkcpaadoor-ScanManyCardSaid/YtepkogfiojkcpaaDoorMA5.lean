/-
  Texts of one seat, one behind the other: LBit, LList, LOr, LNew, LOwn.
-/
import Derived.Laws.BitsAllLaws
import Derived.StillTailTactics
import Derived.Deep.CutBlock
import Derived.Test.YtepkogfiojkcpaaDoorMA3
import Derived.Test.YtepkogfiojkcpaaDoorMA4

set_option linter.unusedVariables false
set_option linter.unusedSimpArgs false
set_option maxRecDepth 100000
set_option maxHeartbeats 51200000
namespace Go.Proofs.YtepkogfiojkcpaaDoor
open Go.ChangeShapes Go.WideShapes Go.ChangeAt Go.RowKit
theorem getD_lt {ws:List Nat} (h:∀ x ∈ ws,x<18446744073709551616) (k:Nat):ws.getD k 0<18446744073709551616:=by
 rw [List.getD_eq_getElem?_getD]
 rcases e:ws[k]? with _ | y
 ·simp
 ·simpa using h y (List.mem_of_getElem? e)
theorem and_bit (v c:Nat) (hv:v<18446744073709551616) (hc:c<64):(bits BinOp.and IntKind.u64 (v:Int) ((2 ^ c:Nat):Int) != 0)=v.testBit c:=by
 rw [u64_and_nat v _ hv (pow_lt64 hc)]
 have e:v &&& 2 ^ c=if v.testBit c=true then 2 ^ c else 0:=by
  apply Nat.eq_of_testBit_eq
  intro i
  rw [Nat.testBit_and,Nat.testBit_two_pow]
  by_cases h:c=i
  ·subst h
   rcases h2:v.testBit c with _ | _ <;> simp [Nat.testBit_two_pow]
  ·rcases h2:v.testBit c with _ | _ <;> simp [h,Nat.testBit_two_pow]
 rw [e]
 have hp:0<2 ^ c:=Nat.pow_pos (by decide)
 rcases h2:v.testBit c with _ | _
 ·simp
 ·have h3:((2 ^ c:Nat):Int)≠0:=by omega
  rw [if_pos rfl]
  exact bne_iff_ne.2 h3
theorem ladd_there (p b m q j:Nat) (ws:List Nat) (w:World) (hp:Blk w p 149 #[.int .i64 m,.slice (some ⟨b,0,none⟩) q q]) (hw:Blk w b 26 (u64n ws).toArray) (hl:ws.length=q) (hlt:∀ x ∈ ws,x<18446744073709551616)
  (hm:m≤5000) (hj:j<m) (hq:m≤64*q) (hr:hasW ws j=true) :
  Calls Tryd.prog 66 #[.pointer (some ⟨p,0,none⟩),.int .i64 j] w fun e w'=>e=.returned (.bool false)∧∃ nq,w'=w.drewN nq:=by
 have h0:w.cell? ⟨p,0,none⟩=some (.int .i64 m):=hp.cell 0
 have h1:w.cell? ⟨p,1,none⟩=some (.slice (some ⟨b,0,none⟩) q q):=hp.cell 1
 have h2:w.cell? ⟨b,j / 64,none⟩=some (.int .u64 ((ws.getD (j / 64) 0:Nat):Int)):=by
  rw [hw.cell,List.getElem?_toArray]
  exact u64n_at (by omega)
 have HT:=Lib.hid (takes_yes p j m w h0 (Int.natCast_nonneg _) (by omega))
 have HH:=Lib.hid (has_at p b m q j (j % 64) (j / 64) _ true w h0 h1 h2 hm hj rfl rfl (by omega) (by rw [and_bit _ _ (getD_lt hlt _) (Nat.mod_lt _ (by decide))];exact hr))
 clear h0 h1 h2 hm hj hp hw hl hlt hr hq
 go_enter Tryd.func66,Tryd.ntmps66
 go_wp2_with (first
  | (go_at_call 87;refine HT.out.mono ?_;rintro e w1 ⟨rfl,rfl⟩)
  | (go_at_call 88;refine HH.out.mono ?_;rintro e w1 ⟨rfl,nq,rfl⟩))
 go_ret
 exact ⟨rfl,nq,rfl⟩
theorem ladd_new (p b m q j:Nat) (ws:List Nat) (w:World) (hp:Blk w p 149 #[.int .i64 m,.slice (some ⟨b,0,none⟩) q q]) (hw:Blk w b 26 (u64n ws).toArray) (hl:ws.length=q) (hlt:∀ x ∈ ws,x<18446744073709551616)
  (hm:m≤5000) (hj:j<m) (hq:m≤64*q) (hr:hasW ws j=false) :
  Calls Tryd.prog 66 #[.pointer (some ⟨p,0,none⟩),.int .i64 j] w fun e w'=>e=.returned (.bool true)∧∃ nq,w'=(w.setCell ⟨b,j / 64,none⟩ (.int .u64 (((addW ws j).getD (j / 64) 0:Nat):Int))).drewN nq:=by
 have hkq:j / 64<q:=by omega
 have h0:w.cell? ⟨p,0,none⟩=some (.int .i64 m):=hp.cell 0
 have h1:w.cell? ⟨p,1,none⟩=some (.slice (some ⟨b,0,none⟩) q q):=hp.cell 1
 have h2:w.cell? ⟨b,j / 64,none⟩=some (.int .u64 ((ws.getD (j / 64) 0:Nat):Int)):=by
  rw [hw.cell,List.getElem?_toArray]
  exact u64n_at (by omega)
 have f2:w.frozen? ⟨b,j / 64,none⟩=false:=hw.frozen _
 have hlt2:(2:Nat) ^ (j % 64)<18446744073709551616:=pow_lt64 (Nat.mod_lt _ (by decide))
 have HT:=Lib.hid (takes_yes p j m w h0 (Int.natCast_nonneg _) (by omega))
 have HH:=Lib.hid (has_at p b m q j (j % 64) (j / 64) _ false w h0 h1 h2 hm hj rfl rfl hkq (by rw [and_bit _ _ (getD_lt hlt _) (Nat.mod_lt _ (by decide))];exact hr))
 have hb:=Lib.hid (show ((j:Int).tmod 64=((j % 64:Nat):Int)) by rw [Int.tmod_eq_emod_of_nonneg (by omega)];omega)
 have HBIT:=Lib.hid (fun W=>bit_any j (j % 64) hb.out (Nat.mod_lt _ (by decide)) W)
 have hor:bits BinOp.or IntKind.u64 ((ws.getD (j / 64) 0:Nat):Int) ((2 ^ (j % 64):Nat):Int)=(((addW ws j).getD (j / 64) 0:Nat):Int):=by
  rw [u64_or_nat _ _ (getD_lt hlt _) hlt2]
  congr 1
  unfold addW
  rw [List.getD_eq_getElem?_getD (l:=List.set _ _ _),List.getElem?_set,if_pos rfl,if_pos (by omega),Option.getD_some]
 obtain ⟨k,hk⟩:∃ k:Nat,k=j / 64:=⟨_,rfl⟩
 have gk:(j:Int) / 64=(k:Int):=by omega
 have gw:IntKind.i64.wrap (k:Int)=(k:Int):=i64_wrap_small (by omega)
 obtain ⟨B,hB⟩:∃ B:Int,B=((2 ^ (j % 64):Nat):Int):=⟨_,rfl⟩
 obtain ⟨V,hV⟩:∃ V:Int,V=((ws.getD (j / 64) 0:Nat):Int):=⟨_,rfl⟩
 obtain ⟨V2,hV2⟩:∃ V2:Int,V2=(((addW ws j).getD (j / 64) 0:Nat):Int):=⟨_,rfl⟩
 rw [← hB] at HBIT hor
 rw [← hV] at hor h2
 rw [← hV2] at hor ⊢
 rw [← hk] at h2 f2 hkq ⊢
 clear hk hj hB hp hw hlt hm hlt2 hr hl hV hV2 hq
 go_enter Tryd.func66,Tryd.ntmps66
 go_wp2_with (first
  | (go_at_call 87;refine HT.out.mono ?_;rintro e w1 ⟨rfl,rfl⟩)
  | (go_at_call 88;refine HH.out.mono ?_;rintro e w1 ⟨rfl,nq,rfl⟩))
 go_region_law (go_simp;go_at_call 89;refine (HBIT.out _).mono ?_;rintro e w1 ⟨rfl,rfl⟩)
 all_goals
  go_wp2
  go_ret
  exact ⟨rfl,nq+1,rfl⟩
theorem lall_some (p:Nat) (A:Option Addr) (q c:Nat) (w:World) (h1:w.cell? ⟨p,1,none⟩=some (.slice A q c)):Calls Tryd.prog 62 #[.pointer (some ⟨p,0,none⟩)] w fun e w'=>e=.returned (.slice A q c)∧w'=w:=by
 go_enter Tryd.func62,Tryd.ntmps62
 go_wp2
 go_ret
 exact ⟨rfl,rfl⟩
theorem and_127 (y:Int):∃ r:Nat,r≤127∧bits BinOp.and IntKind.i64 y 127=(r:Int):=by
 refine ⟨(BitVec.ofInt 64 y &&& BitVec.ofInt 64 127).toNat,?_,?_⟩
 ·rw [BitVec.toNat_and]
  exact Nat.and_le_right
 ·have h:(BitVec.ofInt 64 y &&& BitVec.ofInt 64 127).toNat≤127:=by
   rw [BitVec.toNat_and]
   exact Nat.and_le_right
  show IntKind.i64.wrap ((BitVec.ofInt 64 y &&& BitVec.ofInt 64 127).toNat:Int)=_
  rw [IntKind.wrap_i64]
  omega
theorem ones_le (x:Int) (w:World):Calls Tryd.prog 86 #[.int .u64 x] w fun e w'=>∃ r:Nat,r≤127∧e=.returned (.int .i64 r)∧w'=w:=by
 go_enter Tryd.func86,Tryd.ntmps86
 go_wp2
 go_ret
 obtain ⟨r,h1,h2⟩:=and_127 _
 exact ⟨r,h1,congrArg Ending.returned (congrArg (Value.int IntKind.i64) h2),rfl⟩
theorem llen_any (p b q:Nat) (ws:List Nat) (w:World) (h1:w.cell? ⟨p,1,none⟩=some (.slice (some ⟨b,0,none⟩) q q)) (hw:Blk w b 26 (u64n ws).toArray) (hl:ws.length=q) (hq:q≤16):Calls Tryd.prog 61 #[.pointer (some ⟨p,0,none⟩)] w fun e w'=>∃ r:Nat,r≤2032∧e=.returned (.int .i64 r)∧w'=w:=by
 have HA:=Lib.hid (lall_some p _ _ _ w h1)
 have HW:=Lib.hid hw
 have HL:=Lib.hid hl
 clear h1 hw hl
 go_enter Tryd.func61,Tryd.ntmps61
 go_wp2_with (go_at_call 62;refine HA.out.mono ?_;rintro e w1 ⟨rfl,hw1⟩;rw [hw1];clear hw1)
 go_loopw [3,9] (fun v i wr=>∃ k r:Nat,k≤q∧r≤127*k∧v=.int .i64 r∧i=.int .i64 k∧wr=w) (fun _ i _=>q-(intOf i).toNat)
 case atStart=>exact ⟨0,0,by omega,by omega,rfl,rfl,rfl⟩
 case round =>
  obtain ⟨k,r,hk,hr,rfl,rfl,hwr⟩:=hrel
  rw [hwr]
  clear hwr
  by_cases hlt:k<q
  ·have hx:w.cell? ⟨b,k,none⟩=some (.int .u64 ((ws.getD k 0:Nat):Int)):=by
    rw [HW.out.cell,List.getElem?_toArray]
    exact u64n_at (by rw [HL.out];exact hlt)
   obtain ⟨V,hV⟩:∃ V:Int,V=((ws.getD k 0:Nat):Int):=⟨_,rfl⟩
   rw [← hV] at hx
   clear hV
   go_wp2_with (go_at_call 86;refine (ones_le _ _).mono ?_;rintro e w2 ⟨r2,hr2,rfl,rfl⟩)
   go_roundw
   case rel=>exact ⟨k+1,r+r2,by omega,by omega,by go_num,by go_num,by first | rfl | trivial⟩
   case measure=>simp [intOf];omega
  ·go_wp2
   go_ret
   exact ⟨r,by omega,rfl,rfl⟩
def TzTab (w:World):Prop:=∀ j,j<64→w.cell? ⟨0,j,none⟩=some (.int .u8 ((Lib.deBruijn64tab.getD j 0:Nat):Int))
theorem cell_lt {w:World} {g j:Nat} {v:Value} (h:w.cell? ⟨g,j,none⟩=some v):g<w.heap.size:=by
 rcases Nat.lt_or_ge g w.heap.size with h1 | h1
 ·exact h1
 ·have:w.heap[g]?=none:=Array.getElem?_eq_none h1
  simp [World.cell?,this] at h
theorem TzTab.below {w w':World} (h:TzTab w) (hb:Below w.heap.size w w'):TzTab w':=fun j hj=>(hb.cell (p:=⟨_,j,none⟩) (cell_lt (h j hj))).trans (h j hj)
theorem ltz_key (x a:Nat) (hx:x<18446744073709551616) (hx0:x≠0) (hlow:x &&& (18446744073709551616-x)=a) :
  IntKind.u64.wrap (bits BinOp.and IntKind.u64 (x:Int) (IntKind.u64.wrap (-(x:Int)))*285870213051353865) / 288230376151711744=((a*285870213051353865 % 18446744073709551616 / 288230376151711744:Nat):Int):=by
 have e1:IntKind.u64.wrap (-(x:Int))=((18446744073709551616-x:Nat):Int):=by rw [IntKind.wrap_u64];omega
 rw [e1,u64_and_nat x _ hx (by omega),hlow,IntKind.wrap_u64]
 omega
theorem ltz_core (x k idx:Nat) (w:World) (hx0:((x:Int) == 0)=false)
  (key:IntKind.u64.wrap (bits BinOp.and IntKind.u64 (x:Int) (IntKind.u64.wrap (-(x:Int)))*285870213051353865) / 288230376151711744=(idx:Int))
  (hi:idx<64) (hk:k<64) (hcell:w.cell? ⟨0,idx,none⟩=some (.int .u8 k)) :
  Calls Tryd.prog 63 #[.int .u64 x] w fun e w'=>e=.returned (.int .i64 k)∧w'=w:=by
 go_enter Tryd.func63,Tryd.ntmps63
 go_wp2_with (simp only [key])
 go_ret
 exact ⟨rfl,rfl⟩
theorem ltz_any (x:Nat) (w:World) (hx0:x≠0) (hx:x<18446744073709551616) (hT:TzTab w):Calls Tryd.prog 63 #[.int .u64 x] w fun e w'=>e=.returned (.int .i64 (Lib.ctz 64 x))∧w'=w:=by
 obtain ⟨hlow,hk⟩:=Lib.lowest_bit 64 x hx0 hx
 obtain ⟨hi,htab⟩:=Lib.deBruijn64_at _ hk
 have hcell:=hT _ hi
 rw [htab] at hcell
 exact ltz_core x _ _ w (by simp;omega) (ltz_key x _ hx hx0 hlow) hi hk hcell
theorem lmake_room (r:Nat) (hr:r≤5000) (W:World):(Instr.makeSlice 34 (.int .i64 0) (.int .i64 r)).run Tryd.prog W=.ok (.slice (some ⟨W.heap.size,0,none⟩) 0 r) (W.alloc (.cells (madeCells #[.int .i64 0] r) 3)):=by
 obtain ⟨i0,hi,hz0,hz1,hz2⟩:=info_parts Tryd.info3
 have h:=run_make (P:=Tryd.prog) W 34 3 i0 (.int .i64 0) Tryd.underlying34 hi hz0 .i64 .i64 0 r (by omega) (by omega) (by rw [hz2];omega) (by omega)
 simpa [hz1,Value.cells] using h
theorem mul64 {k:Nat} (c:Nat):(k:Int)*64+(c:Int)=((64*k+c:Nat):Int):=by omega
theorem llist_any (p b q:Nat) (ws:List Nat) (w:World) (h1:w.cell? ⟨p,1,none⟩=some (.slice (some ⟨b,0,none⟩) q q)) (hw:Blk w b 26 (u64n ws).toArray) (hl:ws.length=q) (hlt:∀ x ∈ ws,x<18446744073709551616) (hq:q≤16) (hT:TzTab w) :
  Calls Tryd.prog 38 #[.pointer (some ⟨p,0,none⟩)] w fun e w'=>∃ A c,e=.returned (.slice A (listK ws q).length c)∧w'.ownsRow w.heap.size 3 1 (.slice A (listK ws q).length c) (listK ws q).length (i64c (listK ws q))∧Below w.heap.size w w':=by
 have HLE:=Lib.hid (llen_any p b q ws w h1 hw hl hq)
 have HA:Hid (∀ o,Calls Tryd.prog 62 #[.pointer (some ⟨p,0,none⟩)] (w.alloc o) fun e w'=>e=.returned (.slice (some ⟨b,0,none⟩) q q)∧w'=w.alloc o):=Lib.hid fun o=>lall_some p _ _ _ _ ((World.cell?_alloc_lt w o ⟨p,1,none⟩ (cell_lt h1)).trans h1)
 have HW:=Lib.hid hw
 have HL:=Lib.hid hl
 have HLT:=Lib.hid hlt
 have HT:=Lib.hid hT
 clear h1 hw hl hlt hT
 go_enter Tryd.func38,Tryd.ntmps38
 go_upto_region 1 with fail
 go_wp2_with (first
  | (go_at_call 61;go_loud (refine HLE.out.mono ?_);rintro e w1 ⟨r,hr,rfl,hw1⟩;rw [hw1];clear hw1;go_loud (have hmk:=lmake_room r (by omega) w);go_loud (have hme:Hid ((w.alloc (.cells (madeCells #[.int .i64 0] r) 3)).ownsRow w.heap.size 3 1 (.slice (some ⟨w.heap.size,0,none⟩) 0 r) 0 []):=Lib.hid (World.ownsRow_made w _ r (Nat.le_refl _) (by unfold maxLen;omega) (by simp [size_madeCells]))))
  | (go_at_call 62;refine (HA.out _).mono ?_;rintro e w2 ⟨rfl,hw2⟩;rw [hw2];clear hw2))
 go_loopw [3,12] (fun v i wr=>∃ k:Nat,k≤q∧i=.int .i64 k∧Hid (wr.ownsRow w.heap.size 3 1 v (listK ws k).length (i64c (listK ws k)))∧Hid (Below w.heap.size w wr)) (fun _ i _=>q-(intOf i).toNat)
 case atStart=>exact ⟨0,by omega,rfl,hme,Lib.hid ((Below.refl _ _).alloc (Nat.le_refl _) _)⟩
 case round =>
  obtain ⟨k,hk,rfl,HO,HB⟩:=hrel
  obtain ⟨A,c,rfl⟩:=own_slice HO.out
  by_cases hlt:k<q
  ·have hb:Blk wr b 26 (u64n ws).toArray:=HW.out.below HB.out HW.out.lt
   have hx:wr.cell? ⟨b,k,none⟩=some (.int .u64 ((ws.getD k 0:Nat):Int)):=by
    rw [hb.cell,List.getElem?_toArray]
    exact u64n_at (by rw [HL.out];exact hlt)
   have HVL:=Lib.hid (getD_lt HLT.out k)
   have HS:=Lib.hid (listK_succ ws k)
   have HLK:=Lib.hid (listK_len ws k)
   obtain ⟨V,hV⟩:∃ V:Nat,V=ws.getD k 0:=⟨_,rfl⟩
   rw [← hV] at hx HVL HS
   clear hV hb
   obtain ⟨wo,hwo⟩:∃ wo,wo=wr:=⟨_,rfl⟩
   rw [← hwo] at HO HB hx ⊢
   clear hwo
   go_wp2
   go_loopw [3,5] (fun v x wr=>∃ (X t:Nat),x=.int .u64 X∧Hid (RestW V X t)∧Hid (wr.ownsRow w.heap.size 3 1 v ((listK ws k).length+(bitsL V t).length) (i64c (listK ws k ++ (bitsL V t).map fun (c:Nat)=>((64*k+c:Nat):Int))))∧Hid (Below w.heap.size w wr)) (fun _ x _=>(intOf x).toNat)
   case atStart=>exact ⟨V,0,rfl,Lib.hid (RestW.start V),by simpa [bitsL] using HO,HB⟩
   case round =>
    obtain ⟨X,t,rfl,HR,HOi,HBi⟩:=hrel
    obtain ⟨A2,c2,rfl⟩:=own_slice HOi.out
    have hXl:=HR.out.lt HVL.out
    by_cases hX:X=0
    ·subst hX
     have HD:=Lib.hid (HR.out.done HVL.out)
     go_wp2
     go_roundw
     case rel =>
      refine ⟨k+1,by omega,by go_num,?_,HBi⟩
      rw [HS.out,HD.out,List.length_append,List.length_map]
      exact HOi
     case measure=>simp [intOf];omega
    ·have gx:((X:Int) != 0)=true:=bne_iff_ne.2 (by omega)
     have gs:IntKind.u64.wrap ((X:Int)-1)=((X-1:Nat):Int):=by
      rw [IntKind.wrap_u64]
      omega
     have ga:bits BinOp.and IntKind.u64 (X:Int) ((X-1:Nat):Int)=((X &&& (X-1):Nat):Int):=u64_and_nat _ _ hXl (by omega)
     have HST:=Lib.hid (HR.out.step hX hXl)
     have HZ:Hid (∀ W,Below w.heap.size w W→Calls Tryd.prog 63 #[.int .u64 X] W fun e w'=>e=.returned (.int .i64 (Lib.ctz 64 X))∧w'=W):=Lib.hid fun W hb=>ltz_any X W hX hXl (HT.out.below hb)
     obtain ⟨m,hm⟩:∃ m,m=Lib.ctz 64 X:=⟨_,rfl⟩
     rw [← hm] at HZ HST
     have hmb:m<64:=by rw [hm];exact (ctz_spec X hX hXl).choose_spec.2
     have HLT2:=Lib.hid (low_lt X hX)
     have hbl:=bitsL_len V t
     have ht:=HR.out.1
     have hlk:=HLK.out
     have g2:=mul64 (k:=k) m
     obtain ⟨K,hK⟩:∃ K:Int,K=((64*k+m:Nat):Int):=⟨_,rfl⟩
     rw [← hK] at g2
     have HK:=Lib.hid hK
     obtain ⟨Y,hY⟩:∃ Y:Nat,Y=X &&& (X-1):=⟨_,rfl⟩
     rw [← hY] at HST HLT2 ga
     clear hm hK hY hX hXl HR
     go_wp2_with (first
      | (go_at_call 63;refine (HZ.out _ HBi.out).mono ?_;rintro e w3 ⟨rfl,hw3⟩;rw [hw3];clear hw3)
      | (at_builtin;refine app_int rfl (.tmp 23) (.tmp 29) rfl w.heap.size _ _ _ rfl (own_alloc HOi.out _) (wr.heap.size+1) (some ⟨wr.heap.size,0,none⟩) 1 1 [.int .i64 K] rfl (one_reads wr _ _ 1 rfl) (ints_oneCell .i64 [K]) (by omega) (by have:=HBi.out.size;simp;omega) ?_;intro v' w4 hown hgr hor;have HO4:=Lib.hid hown;have HB4:Hid (Below w.heap.size w w4):=Lib.hid ((HBi.out.alloc HBi.out.size _).grown hgr (by have:=HBi.out.size;simp;omega) fun g hg=>(own_block_le HOi.out hg).1);clear hown hgr hor))
     go_roundw
     case rel =>
      refine ⟨Y,m+1,rfl,Lib.hid HST.out.1,?_,HB4⟩
      have h:=HO4.out
      rw [HST.out.2,List.length_append,List.map_append]
      rw [HK.out] at h
      simp only [List.length_singleton,List.map_cons,List.map_nil]
      rw [← List.append_assoc,i64c_append]
      exact Lib.hid h
     case measure =>
      have:=HLT2.out
      simp [intOf]
      omega
  ·obtain rfl:k=q:=by omega
   go_wp2
   go_ret
   exact ⟨A,c,rfl,HO.out,HB.out⟩
structure KpB (w w':World) (b:Nat):Prop where
 os:w'.os=w.os
 tape:w'.tape=w.tape
 output:w'.output=w.output
 size:w.heap.size≤w'.heap.size
 block:∀ i,i<w.heap.size→i≠b→w'.heap[i]?=w.heap[i]?
theorem KpB.refl (w:World) (b:Nat):KpB w w b:=⟨rfl,rfl,rfl,Nat.le_refl _,fun _ _ _=>rfl⟩
theorem KpB.drewN {w w':World} {b:Nat} (h:KpB w w' b) (n:Nat):KpB w (w'.drewN n) b:=⟨h.os,h.tape,h.output,h.size,h.block⟩
theorem KpB.set {w w':World} {b:Nat} (h:KpB w w' b) (k:Nat) (u:Value):KpB w (w'.setCell ⟨b,k,none⟩ u) b :=
 ⟨h.os,h.tape,h.output,by simpa [World.setCell] using h.size,fun i hi hne=>(Below.heap_setCell w' ⟨b,k,none⟩ u i hne).trans (h.block i hi hne)⟩
theorem KpB.blk {w w':World} {b g:Nat} {t:TypeId} {cs:Array Value} (h:KpB w w' b) (hb:Blk w g t cs) (hne:g≠b):Blk w' g t cs:=(h.block g hb.lt hne).trans hb
theorem KpB.out {w w':World} {b:Nat} (h:KpB w w' b) (B:Nat) (hB:B≤w.heap.size) (hb:B≤b):Below B w w':=⟨h.os,h.tape,h.output,h.size,fun i hi=>h.block i (by omega) (by omega)⟩
theorem shl_below (s:Nat) (h:s≤64):IntKind.u64.wrap (IntKind.u64.wrap ((2:Int) ^ s)-1)=((2 ^ s-1:Nat):Int):=by
 rw [pow_int,wrap_u64_eq,wrap_u64_eq]
 have hp:0<2 ^ s:=Nat.pow_pos (by decide)
 have hle:2 ^ s≤2 ^ 64:=Nat.pow_le_pow_right (by decide) h
 by_cases e:s=64
 ·subst e
  decide
 ·have hlt:2 ^ s<2 ^ 64:=Nat.pow_lt_pow_right (by decide) (by omega)
  omega
theorem below_any (p k m:Nat) (s:Nat) (w:World) (h0:w.cell? ⟨p,0,none⟩=some (.int .i64 m)) (hk:64*k<m) (hm:m≤1024) (hs:s=min (m-64*k) 64):Calls Tryd.prog 82 #[.pointer (some ⟨p,0,none⟩),.int .i64 k] w fun e w'=>e=.returned (.int .u64 ((2 ^ s-1:Nat):Int))∧w'=w:=by
 have hsb:=shl_below s (by omega)
 have hms:min (m-64*k) 64=s:=hs.symm
 obtain ⟨c,hc⟩:∃ c:Nat,c=m-64*k:=⟨_,rfl⟩
 rw [← hc] at hms
 have g1:(m:Int)-(k:Int)*64=(c:Int):=by omega
 have g0:decide ((c:Int)<0)=false:=by simp
 clear hs hc
 go_enter Tryd.func82,Tryd.ntmps82
 go_wp2
 go_ret
 refine ⟨?_,rfl⟩
 simp [hms]
 try exact hsb
theorem shared_any (p1 b1 p2 b2 q:Nat) (w:World) (h1:w.cell? ⟨p1,1,none⟩=some (.slice (some ⟨b1,0,none⟩) q q)) (h2:w.cell? ⟨p2,1,none⟩=some (.slice (some ⟨b2,0,none⟩) q q)) (hq:q≤16) :
  Calls Tryd.prog 81 #[.pointer (some ⟨p1,0,none⟩),.pointer (some ⟨p2,0,none⟩)] w fun e w'=>e=.returned (.slice (some ⟨b2,0,none⟩) q q)∧w'=w:=by
 have HA:=Lib.hid (lall_some p1 _ _ _ w h1)
 have HB:=Lib.hid (lall_some p2 _ _ _ w h2)
 clear h1 h2
 go_enter Tryd.func81,Tryd.ntmps81
 go_wp2_with (first
  | (go_at_call 62;with_reducible refine HA.out.mono ?_;rintro e w1 ⟨rfl,hw1⟩;rw [hw1];clear hw1)
  | (go_at_call 62;with_reducible refine HB.out.mono ?_;rintro e w1 ⟨rfl,hw1⟩;rw [hw1];clear hw1))
 go_ret
 exact ⟨rfl,rfl⟩
theorem lor_any (p1 b1 p2 b2 m q:Nat) (ws vs:List Nat) (w:World) (hp1:Blk w p1 149 #[.int .i64 m,.slice (some ⟨b1,0,none⟩) q q]) (hw1:Blk w b1 26 (u64n ws).toArray) (hp2:Blk w p2 149 #[.int .i64 m,.slice (some ⟨b2,0,none⟩) q q]) (hw2:Blk w b2 26 (u64n vs).toArray)
  (hl1:ws.length=q) (hl2:vs.length=q) (hlt1:∀ x ∈ ws,x<18446744073709551616) (hlt2:∀ x ∈ vs,x<18446744073709551616) (hm:m≤1024) (hq:q=(m+63) / 64) (hmost:∀ j,hasW vs j=true→j<m) (hne:b2≠b1) :
  Calls Tryd.prog 59 #[.pointer (some ⟨p1,0,none⟩),.pointer (some ⟨p2,0,none⟩)] w fun e w'=>(∃ bo,e=.returned (.bool bo))∧Blk w' b1 26 (u64n (orK ws vs q)).toArray∧KpB w w' b1:=by
 have HSH:=Lib.hid (shared_any p1 b1 p2 b2 q w (hp1.cell 1) (hp2.cell 1) (by omega))
 have HP1:=Lib.hid hp1
 have HW1:=Lib.hid hw1
 have HW2:=Lib.hid hw2
 have HL1:=Lib.hid hl1
 have HL2:=Lib.hid hl2
 have HLT1:=Lib.hid hlt1
 have HLT2:=Lib.hid hlt2
 have HM:=Lib.hid hmost
 have HQ:=Lib.hid hq
 have HPB:Hid (p1≠b1):=Lib.hid (Blk.ne_ hp1 hw1 (by decide))
 have HNE:=Lib.hid hne
 have hq16:q≤16:=by omega
 clear hp1 hw1 hp2 hw2 hl1 hl2 hlt1 hlt2 hmost hq hne
 go_enter Tryd.func59,Tryd.ntmps59
 go_wp2_with (go_at_call 81;refine HSH.out.mono ?_;rintro e w1 ⟨rfl,hw1⟩;rw [hw1];clear hw1)
 go_loopw [5,13] (fun v i wr=>∃ (k:Nat) (bo:Bool),k≤q∧v=.bool bo∧i=.int .i64 k∧Hid (Blk wr b1 26 (u64n (orK ws vs k)).toArray)∧Hid (KpB w wr b1)) (fun _ i _=>q-(intOf i).toNat)
 case atStart=>exact ⟨0,false,by omega,rfl,rfl,by rw [orK_zero];exact HW1,Lib.hid (KpB.refl w b1)⟩
 case round =>
  obtain ⟨k,bo,hk,rfl,rfl,HW,HK⟩:=hrel
  by_cases hlt:k<q
  ·have hkm:64*k<m:=by have:=HQ.out;omega
   obtain ⟨T,hT⟩:∃ T:Nat,T=vs.getD k 0:=⟨_,rfl⟩
   obtain ⟨X,hX⟩:∃ X:Nat,X=ws.getD k 0:=⟨_,rfl⟩
   have hTl:T<18446744073709551616:=by rw [hT];exact getD_lt HLT2.out k
   have hXl:X<18446744073709551616:=by rw [hX];exact getD_lt HLT1.out k
   have hXk:(orK ws vs k).getD k 0=X:=by rw [orK_at,if_neg (fun h=>by omega),hX]
   have x2:wr.cell? ⟨b2,k,none⟩=some (.int .u64 T):=by
    rw [(HK.out.blk HW2.out HNE.out).cell,List.getElem?_toArray,hT]
    exact u64n_at (by rw [HL2.out];exact hlt)
   have x1:wr.cell? ⟨b1,k,none⟩=some (.int .u64 X):=by
    rw [HW.out.cell,List.getElem?_toArray,← hXk]
    exact u64n_at (by rw [orK_len,HL1.out];exact hlt)
   have c0:wr.cell? ⟨p1,1,none⟩=some (.slice (some ⟨b1,0,none⟩) q q):=(HK.out.blk HP1.out HPB.out).cell 1
   have c9:wr.cell? ⟨p1,0,none⟩=some (.int .i64 m):=(HK.out.blk HP1.out HPB.out).cell 0
   have f1:wr.frozen? ⟨b1,k,none⟩=false:=HW.out.frozen k
   obtain ⟨s,hs⟩:∃ s,s=min (m-64*k) 64:=⟨_,rfl⟩
   have HBE:=Lib.hid (fun W (h:W.cell? ⟨p1,0,none⟩=some (.int .i64 m))=>below_any p1 k m s W h hkm hm hs)
   obtain ⟨D,hD⟩:∃ D:Nat,D=2 ^ s-1:=⟨_,rfl⟩
   rw [← hD] at HBE
   have hDl:D<18446744073709551616:=by
    have:2 ^ s≤2 ^ 64:=Nat.pow_le_pow_right (by decide) (by omega)
    omega
   obtain ⟨Y,hY⟩:∃ Y:Nat,Y=T &&& (18446744073709551615-X):=⟨_,rfl⟩
   have hYl:Y<18446744073709551616:=by rw [hY];exact Nat.lt_of_le_of_lt Nat.and_le_left hTl
   have ga:bits BinOp.andNot IntKind.u64 (T:Int) (X:Int)=(Y:Int):=by rw [u64_andNot_nat _ _ hTl hXl,hY]
   obtain ⟨Z,hZ⟩:∃ Z:Nat,Z=Y &&& D:=⟨_,rfl⟩
   have hZl:Z<18446744073709551616:=by rw [hZ];exact Nat.lt_of_le_of_lt Nat.and_le_left hYl
   have gb:bits BinOp.and IntKind.u64 (Y:Int) (D:Int)=(Z:Int):=by rw [u64_and_nat _ _ hYl hDl,hZ]
   obtain ⟨V,hV⟩:∃ V:Nat,V=X ||| T:=⟨_,rfl⟩
   have gor:bits BinOp.or IntKind.u64 (X:Int) (Z:Int)=(V:Int):=by
    rw [u64_or_nat _ _ hXl hZl,hZ,hY,hD,or_added X T s hXl hTl (fun i hi=>?_) (by omega),hV]
    have hi64:i<64:=by
     rcases Nat.lt_or_ge i 64 with h | h
     ·exact h
     ·rw [Nat.testBit_lt_two_pow (Nat.lt_of_lt_of_le (show T<2 ^ 64 from hTl) (Nat.pow_le_pow_right (by decide) h))] at hi
      cases hi
    have h2:=HM.out (64*k+i) (by
     unfold hasW
     rw [show (64*k+i) / 64=k by omega,show (64*k+i) % 64=i by omega,← hT]
     exact hi)
    omega
   obtain ⟨rz,hrz⟩:∃ rz:Bool,((Z:Int) != 0)=rz:=⟨_,rfl⟩
   have HSTEP:Hid (u64n (orK ws vs (k+1))=(u64n (orK ws vs k)).set k (.int .u64 (V:Int))):=Lib.hid (by
    rw [orK_succ ws vs k (by rw [HL1.out];exact hlt),u64n_set,← hT,← hX,← hV])
   clear hT hX hTl hXl hXk hkm hs hD hDl hY hYl hZ hZl hV
   cases bo
   ·go_wp2
    go_quiet ((go_at_call 82;exact Calls.quiet_of_same (HBE.out _ c9)))
    go_wp2
    go_roundw
    case rel =>
     refine ⟨k+1,rz,by omega,rfl,by go_num,?_,Lib.hid ((HK.out.drewN nq).set k _)⟩
     have h1:=(HW.out.drewN nq).set_ k (.int .u64 (V:Int))
     rw [List.setIfInBounds_toArray,← HSTEP.out] at h1
     exact Lib.hid h1
    case measure=>simp [intOf];omega
   ·go_wp2
    go_quiet ((go_at_call 82;exact Calls.quiet_of_same (HBE.out _ c9)))
    go_wp2
    go_roundw
    case rel =>
     refine ⟨k+1,true,by omega,rfl,by go_num,?_,Lib.hid ((HK.out.drewN nq).set k _)⟩
     have h1:=(HW.out.drewN nq).set_ k (.int .u64 (V:Int))
     rw [List.setIfInBounds_toArray,← HSTEP.out] at h1
     exact Lib.hid h1
    case measure=>simp [intOf];omega
  ·have hkq:k=q:=by omega
   rw [hkq] at HW
   go_wp2
   go_ret
   exact ⟨⟨bo,rfl⟩,HW.out,HK.out⟩
theorem info_pset:(Tryd.prog.info? 96).map (fun i=>(i.zero,i.size,i.bytes))=some (some (.pointer none),1,8):=by kernel_rfl
theorem info_sint:(Tryd.prog.info? 34).map (fun i=>(i.zero,i.size,i.bytes))=some (some (.slice none 0 0),1,24):=by kernel_rfl
theorem made_words (q:Nat):madeCells #[.int .u64 0] q=(u64n (List.replicate q 0)).toArray:=by
 apply Array.ext
 ·simp [madeCells,u64n]
 ·intro i h1 h2
  simp [madeCells,u64n,Nat.mod_one]
structure NewSI (W:World) (R n q m k:Nat) (cs:Array Value) (wr:World):Prop where
 gr:Blk wr W.heap.size 38 cs
 row:Blk wr R 96 (rowA n fun i=>if i<k then .pointer (some ⟨R+2+2*i,0,none⟩) else .pointer none)
 box:∀ i,i<k→Blk wr (R+2+2*i) 149 #[.int .i64 m,.slice (some ⟨R+1+2*i,0,none⟩) q q]
 words:∀ i,i<k→Blk wr (R+1+2*i) 26 (u64n (List.replicate q 0)).toArray
 size:wr.heap.size=R+1+2*k
 below:Below W.heap.size W wr
 at_:R=W.heap.size+1
section
variable {W wr:World} {R n q m k:Nat} {cs:Array Value}
theorem NewSI.start (W:World) (n q m:Nat) (cs:Array Value):NewSI W (W.heap.size+1) n q m 0 cs ((W.alloc (.cells cs 38)).alloc (.cells (madeCells #[.pointer none] n) 96)):=by
 have h:=Blk.new (W.alloc (.cells cs 38)) 96 (madeCells #[.pointer none] n)
 rw [show (W.alloc (.cells cs 38)).heap.size=W.heap.size+1 by simp] at h
 refine ⟨(Blk.new W _ _).alloc _,?_,fun i hi=>absurd hi (by omega),fun i hi=>absurd hi (by omega),by simp,((Below.refl _ _).alloc (Nat.le_refl _) _).alloc (by simp) _,rfl⟩
 rw [rowA_congr (g:=fun _=>.pointer none) (fun i _=>if_neg (Nat.not_lt_zero i)),← rowA_made]
 exact h
theorem NewSI.step (h:NewSI W R n q m k cs wr) (hk:k<n):NewSI W R n q m (k+1) cs ((newW wr m q).setCell ⟨R,k,none⟩ (.pointer (some ⟨wr.heap.size+1,0,none⟩))):=by
 have hs:=h.size
 have ha:=h.at_
 have hb:=Blk.new (wr.alloc (.cells (madeCells #[.int .u64 0] q) 26)) 149 #[.int .i64 m,.slice (some ⟨wr.heap.size,0,none⟩) q q]
 rw [show (wr.alloc (.cells (madeCells #[.int .u64 0] q) 26)).heap.size=wr.heap.size+1 by simp] at hb
 have hw:Blk (newW wr m q) wr.heap.size 26 (u64n (List.replicate q 0)).toArray:=by
  rw [← made_words]
  exact (Blk.new wr 26 (madeCells #[.int .u64 0] q)).alloc (.cells #[.int .i64 m,.slice (some ⟨wr.heap.size,0,none⟩) q q] 149)
 refine ⟨((h.gr.alloc _).alloc _).far (p:=⟨R,k,none⟩) (by show W.heap.size≠R;omega) _,?_,fun i hi=>?_,fun i hi=>?_,by simp [newW,World.setCell];omega,((h.below.alloc h.below.size _).alloc (by have:=h.below.size;simp;omega) _).setCell (p:=⟨R,k,none⟩) (by show W.heap.size≤R;omega) _,ha⟩
 ·have h1:=((h.row.alloc (.cells (madeCells #[.int .u64 0] q) 26)).alloc (.cells #[.int .i64 m,.slice (some ⟨wr.heap.size,0,none⟩) q q] 149)).set_ k (.pointer (some ⟨wr.heap.size+1,0,none⟩))
  rw [rowA_set] at h1
  rw [rowA_congr (g:=upd (fun i=>if i<k then .pointer (some ⟨R+2+2*i,0,none⟩) else .pointer none) k (.pointer (some ⟨wr.heap.size+1,0,none⟩))) (fun i hi=>by
   unfold upd
   show _=if i=k then _ else if i<k then _ else _
   by_cases e:i=k
   ·subst e
    rw [if_pos (by omega),if_pos rfl,show wr.heap.size+1=R+2+2*i by omega]
   ·rw [if_neg e]
    by_cases e2:i<k
    ·rw [if_pos (by omega),if_pos e2]
    ·rw [if_neg (by omega),if_neg e2])]
  exact h1
 ·by_cases e:i=k
  ·subst e
   rw [show R+2+2*i=wr.heap.size+1 by omega,show R+1+2*i=wr.heap.size by omega]
   exact hb.far (p:=⟨R,i,none⟩) (by show wr.heap.size+1≠R;omega) (.pointer (some ⟨wr.heap.size+1,0,none⟩))
  ·exact (((h.box i (by omega)).alloc _).alloc _).far (p:=⟨R,k,none⟩) (by show R+2+2*i≠R;omega) _
 ·by_cases e:i=k
  ·subst e
   rw [show R+1+2*i=wr.heap.size by omega]
   exact hw.far (p:=⟨R,i,none⟩) (by show wr.heap.size≠R;omega) (.pointer (some ⟨wr.heap.size+1,0,none⟩))
  ·exact (((h.words i (by omega)).alloc _).alloc _).far (p:=⟨R,k,none⟩) (by show R+1+2*i≠R;omega) _
theorem NewSI.done (h:NewSI W R n q m n cs wr) (hq:q=(m+63) / 64) (hm:m≤1024):SetsI wr R n q m (List.replicate n (List.replicate q 0)):=by
 refine ⟨?_,h.box,fun i hi=>?_,zeroS_wf n q m,hq,hm⟩
 ·rw [rowA_congr (g:=fun i=>if i<n then .pointer (some ⟨R+2+2*i,0,none⟩) else .pointer none) (fun i hi=>by rw [if_pos hi])]
  exact h.row
 ·rw [List.getD_eq_getElem?_getD,List.getElem?_replicate,if_pos hi,Option.getD_some]
  exact h.words i hi
end
theorem newSets_any (po ko io no:Option Addr) (nP pc nK kc nI ic n nc q:Nat) (cells keep entry:Int) (res:Bool) (w:World) (hn:n≤4096) (hK:nK≤1024) (hq:q=(nK+63) / 64) :
  Calls Tryd.prog 57 #[.agg #[.slice po nP pc,.slice ko nK kc,.int .i64 cells,.slice io nI ic,.bool res,.int .i64 keep,.slice no n nc,.int .i64 entry]] w fun e w'=>e=.returned (.slice (some ⟨w.heap.size+1,0,none⟩) n n)∧SetsI w' (w.heap.size+1) n q nK (List.replicate n (List.replicate q 0))∧Below w.heap.size w w'∧w'.heap.size=w.heap.size+2+2*n:=by
 have hmk:∀ W:World,(Instr.makeSlice 69 (.int .i64 n) (.int .i64 n)).run Tryd.prog W=.ok (.slice (some ⟨W.heap.size,0,none⟩) n n) (W.alloc (.cells (madeCells #[.pointer none] n) 96)):=fun W=>run_make_row' _ _ _ 8 Tryd.underlying69 info_pset rfl .i64 .i64 n (by omega) (by omega) W
 have HS:=Lib.hid (NewSI.start w n q nK #[.slice po nP pc,.slice ko nK kc,.int .i64 cells,.slice io nI ic,.bool res,.int .i64 keep,.slice no n nc,.int .i64 entry])
 have HQ:=Lib.hid hq
 clear hq
 go_enter Tryd.func57,Tryd.ntmps57
 go_wp2
 obtain ⟨R,hR⟩:∃ R,R=w.heap.size+1:=⟨_,rfl⟩
 rw [← hR] at HS ⊢
 have HR:=Lib.hid hR
 clear hR
 go_loopw [11] (fun i wr=>∃ k:Nat,k≤n∧i=.int .i64 k∧Hid (NewSI w R n q nK k #[.slice po nP pc,.slice ko nK kc,.int .i64 cells,.slice io nI ic,.bool res,.int .i64 keep,.slice no n nc,.int .i64 entry] wr)) (fun i _=>n-(intOf i).toNat)
 case atStart=>exact ⟨0,by omega,rfl,HS⟩
 case round =>
  obtain ⟨k,hk,rfl,HI⟩:=hrel
  by_cases hlt:k<n
  ·have g1:wr.cell? ⟨w.heap.size,1,none⟩=some (.slice ko nK kc):=HI.out.gr.cell 1
   have f1:(newW wr nK q).frozen? ⟨R,k,none⟩=false:=((HI.out.row.alloc _).alloc _).frozen k
   have y1:∃ y,(newW wr nK q).cell? ⟨R,k,none⟩=some y:=⟨_,(((HI.out.row.alloc _).alloc _).cell k).trans (rowA_at _ hlt)⟩
   obtain ⟨y,hy⟩:=y1
   go_wp2_with (go_at_call 79;refine (new_any nK nK q (by omega) (by omega) (by rw [if_neg (by omega)]) HQ.out _).mono ?_;rintro e w2 ⟨rfl,hw2⟩;rw [hw2];clear hw2)
   go_roundw
   case rel=>exact ⟨k+1,by omega,by go_num,Lib.hid (HI.out.step hlt)⟩
   case measure=>simp [intOf];omega
  ·obtain rfl:k=n:=by omega
   have HD:=Lib.hid (HI.out.done HQ.out hK)
   have HZ:=Lib.hid HI.out.size
   have HBL:=Lib.hid HI.out.below
   go_wp2
   go_ret
   have hR:=HR.out
   subst hR
   exact ⟨rfl,HD.out,HBL.out,by rw [HZ.out]⟩
open Go.ChangeShapes Go.WideShapes Go.ChangeAt Go.RowKit Go.Maps
def NewO (w:World) (l:List Int) (e:Ending) (w':World):Prop:=∃ (A:Option Addr) (c:Nat),e=.returned (.slice A l.length c)∧w'.ownsRow w.heap.size 3 1 (.slice A l.length c) l.length (i64c l)∧l.length≤c∧Below w.heap.size w w'
theorem NewO.mk' {w w' w1:World} {l l':List Int} {A:Option Addr} {n c:Nat} (hl:l=l') (hn:l.length=n) (hr:w'.ownsRow w1.heap.size 3 1 (.slice A n c) n (i64c l)) (hc:n≤c) (hb:Below w1.heap.size w1 w') (hw:Below w.heap.size w w1):NewO w l' (.returned (.slice A n c)) w':=by
 subst hl
 subst hn
 exact ⟨A,c,rfl,own_more hr hw.size,hc,hw.trans (hb.mono hw.size)⟩
theorem placesOf_own (B:Nat) (A:Option Addr) (n c:Nat) (zs:List Int) (w:World) (h:Reads w B 1 A n (i64c zs)) (hn:zs.length=n) (hz:∀ x ∈ zs,I64 x) (hB:B≤w.heap.size) (hnb:n*8≤140737488351232) :
  Calls Tryd.prog 65 #[.slice A n c] w (NewO w (addL [] zs)):=by
 have hmm:=@run_makeMap Tryd.prog
 obtain ⟨i0,hi,hz0,hz1,hz2⟩:=info_parts Tryd.info3
 have H:=Lib.hid h
 have HN:=Lib.hid hn
 have HZ:=Lib.hid hz
 clear h hn hz
 go_enter Tryd.func65,Tryd.ntmps65
 go_wp2
 go_loopw [3,12] (fun v i wr=>∃ k:Nat,k≤n∧i=.int .i64 k∧Hid (PlI w zs k v wr)) (fun _ i _=>n-(intOf i).toNat)
 case atStart=>exact ⟨0,Nat.zero_le _,rfl,⟨World.ownsMap_made _ _ _ _,World.ownsRow_nil _ _ _ _,(Below.refl _ _).alloc (Nat.le_refl _) _,by simp⟩⟩
 case round =>
  obtain ⟨k,hk,rfl,HI⟩:=hrel
  by_cases hlt:k<n
  ·obtain ⟨b,off,x,rfl,hb,HX,x1⟩:=(H.out.below (HI.out.below.mono hB)).int hlt
   have hwx:I64 x:=HZ.out x (List.mem_of_getElem? HX.out)
   have hkey:keyOf Tryd.prog 3 (.int .i64 x)=some (.int .i64 x):=keyOf_int_mk Tryd.underlying3 (wf_of hwx)
   have hal:=addL_len [] (zs.take k)
   have hws:=HI.out.lt
   have htk:(zs.take k).length=k:=by rw [List.length_take,HN.out];omega
   have hadd:addL [] (zs.take (k+1))=add1 (addL [] (zs.take k)) x:=by rw [take_at HX.out,addL_snoc]
   have hbr:b<wr.heap.size:=by have:=HI.out.below.size;omega
   have hmap:=HI.out.map
   have hrow:=HI.out.own
   simp only [List.length_nil,Nat.zero_add,htk] at hal
   have HADD:=Lib.hid hadd
   clear hadd htk
   have hhas:=has_setI (H:=Unit) (addL [] (zs.take k)) x
   by_cases hin:(addL [] (zs.take k)).contains x=true
   ·rw [hin] at hhas
    have hg:(addL [] (zs.take (k+1)))=addL [] (zs.take k):=by
     rw [HADD.out,add1,if_neg]
     rintro ⟨_,h2⟩
     exact h2 (by simpa using hin)
    have HG:=Lib.hid hg
    clear hg hin
    go_wp2_with (first
     | (at_lookup;refine wpList_lookup_own_unit _ rfl _ _ 155 rfl 3 156 law_int Tryd.underlying155 (zero_unit _) w.heap.size k _ rfl hmap _ _ rfl hkey ?_;rw [hhas])
     | go_in)
    go_roundw
    case rel=>exact ⟨k+1,by omega,by go_num,⟨by rw [HG.out];exact (hmap.alloc _).mono (Nat.le_succ _),by rw [HG.out];exact hrow.alloc _,HI.out.below.alloc HI.out.below.size _,by simp;omega⟩⟩
    case measure=>simp [intOf];omega
   ·have hin':(addL [] (zs.take k)).contains x=false:=by simpa using hin
    rw [hin'] at hhas
    by_cases hneg:x<0
    ·have hg:(addL [] (zs.take (k+1)))=addL [] (zs.take k):=by
      rw [HADD.out,add1,if_neg]
      rintro ⟨h2,_⟩
      omega
     have HG:=Lib.hid hg
     clear hg hin hin'
     have hd:decide (x<0)=true:=by simpa using hneg
     go_wp2_with (first
      | (at_lookup;refine wpList_lookup_own_unit _ rfl _ _ 155 rfl 3 156 law_int Tryd.underlying155 (zero_unit _) w.heap.size k _ rfl hmap _ _ rfl hkey ?_;rw [hhas])
      | go_in)
     go_roundw
     case rel=>exact ⟨k+1,by omega,by go_num,⟨by rw [HG.out];exact (hmap.alloc _).mono (Nat.le_succ _),by rw [HG.out];exact hrow.alloc _,HI.out.below.alloc HI.out.below.size _,by simp;omega⟩⟩
     case measure=>simp [intOf];omega
    ·have hg:(addL [] (zs.take (k+1)))=addL [] (zs.take k) ++ [x]:=by
      rw [HADD.out,add1,if_pos]
      exact ⟨by omega,by simpa using hin'⟩
     have HG:=Lib.hid hg
     clear hg hin hin'
     have hd:decide (x<0)=false:=by simpa using hneg
     go_wp2_with (first
      | (at_lookup;refine wpList_lookup_own_unit _ rfl _ _ 155 rfl 3 156 law_int Tryd.underlying155 (zero_unit _) w.heap.size k _ rfl hmap _ _ rfl hkey ?_;rw [hhas])
      | (at_mapUpdate;refine wpList_mapUpdate_own _ rfl _ _ _ 155 rfl 3 156 law_int Tryd.underlying155 (unitElem (H:=Unit)) w.heap.size k _ rfl (hmap.alloc _) (by unfold maxLen;omega) _ _ _ rfl rfl hkey _ [] unitElem_mk ?_;intro w1 hown1 hgrow1)
      | (at_builtin;refine wpList_append_own _ rfl _ _ 34 rfl (w.heap.size+1) 3 i0 (.int .i64 0) 1 8 Tryd.underlying34 hi hz0 hz1 hz2 rfl (by decide) _ _ _ rfl (((hrow.alloc _).kept hgrow1 (Or.inr (row_ne hrow (Nat.lt_succ_self _)).symm)).alloc _) ⟨w1.heap.size,0,none⟩ 1 1 [.int .i64 x] rfl rfl (cell_one_new _ _ _) (ints_oneCell .i64 [x]) (by unfold maxLen;omega) (by omega) (by have:=hgrow1.size;simp at this ⊢;omega) ?_;intro v' w2 hown' hgrow2 hnil2)
      | go_in)
     have hr1:=(hrow.alloc (.cells #[] 156)).kept hgrow1 (Or.inr (row_ne hrow (Nat.lt_succ_self _)).symm)
     have s1:=hgrow1.size
     have s2:=hgrow2.size
     simp at s1 s2
     go_roundw
     case rel =>
      refine ⟨k+1,by omega,by go_num,⟨?_,?_,?_,by omega⟩⟩
      ·rw [HG.out,setI_snoc]
       exact (hown1.alloc _).kept hgrow2 (row_ne hr1 (Nat.lt_succ_self _))
      ·rw [HG.out]
       simpa [i64c] using hown'
      ·exact ((((HI.out.below.alloc HI.out.below.size _).grown hgrow1 (by simp;omega) (fun j hj=>by cases hj;exact Nat.le_refl _)).alloc (by omega) _).grown hgrow2 (by simp;omega) (fun j hj=>Nat.le_trans (Nat.le_succ _) (hr1.lt j hj).1))
     case measure=>simp [intOf];omega
  ·obtain rfl:n=k:=by omega
   have hall:zs.take n=zs:=List.take_of_length_le (by rw [HN.out];omega)
   have hi2:=HI.out.own
   obtain ⟨A2,c2,rfl⟩:=own_slice hi2
   rw [hall] at hi2 ⊢
   have HR:Hid (wr.ownsRow w.heap.size 3 1 (.slice A2 (addL [] zs).length c2) (addL [] zs).length (i64c (addL [] zs))):=Lib.hid (own_more hi2 (Nat.le_succ _))
   have HC:Hid ((addL [] zs).length≤c2):=own_cap hi2
   have HBL:=Lib.hid HI.out.below
   clear hi2 hall
   go_wp2
   go_ret
   exact ⟨A2,c2,rfl,HR.out,HC.out,HBL.out⟩
theorem writes_own (B:Nat) (op bop d e a b f cell imm:Int) (args:List Int) (nx el:Int) (ao:Option Addr) (nA ac:Nat) (w:World) (ho0:0≤op) (ho1:op≤255) (hd:I64 d) (he:I64 e) (ha:I64 a) (hb:I64 b) (hn:I64 nx) (hel:I64 el) (hr:Reads w B 1 ao nA (i64c args)) (hl:args.length=nA) (hargs:∀ x ∈ args,I64 x) (hnA:nA*8≤140737488351232) (hnc:nA≤ac) (hB:B≤w.heap.size) :
  Calls Tryd.prog 64 #[.agg #[.int .u8 op,.int .u8 bop,.int .i64 d,.int .i64 e,.int .i64 a,.int .i64 b,.int .i64 f,.int .i64 cell,.int .u64 imm,.slice ao nA ac,.int .i64 nx,.int .i64 el]] w (NewO w (writesOf ⟨op,bop,d,e,a,b,f,cell,imm,args,nx,el⟩)):=by
 have H:=Lib.hid hr
 have HL:=Lib.hid hl
 have HA:=Lib.hid hargs
 have HW1:Hid (Below w.heap.size w (w.alloc (.cells #[.int .u8 op,.int .u8 bop,.int .i64 d,.int .i64 e,.int .i64 a,.int .i64 b,.int .i64 f,.int .i64 cell,.int .u64 imm,.slice ao nA ac,.int .i64 nx,.int .i64 el] 60))):=(Below.refl _ _).alloc (Nat.le_refl _) _
 have HH:Hid (Reads (w.alloc (.cells #[.int .u8 op,.int .u8 bop,.int .i64 d,.int .i64 e,.int .i64 a,.int .i64 b,.int .i64 f,.int .i64 cell,.int .u64 imm,.slice ao nA ac,.int .i64 nx,.int .i64 el] 60)) B 1 ao nA (i64c args)):=Lib.hid (hr.below (HW1.out.mono hB))
 have hB1:B≤(w.alloc (.cells #[.int .u8 op,.int .u8 bop,.int .i64 d,.int .i64 e,.int .i64 a,.int .i64 b,.int .i64 f,.int .i64 cell,.int .u64 imm,.slice ao nA ac,.int .i64 nx,.int .i64 el] 60)).heap.size:=by simp;omega
 have hz1:(w.alloc (.cells #[.int .u8 op,.int .u8 bop,.int .i64 d,.int .i64 e,.int .i64 a,.int .i64 b,.int .i64 f,.int .i64 cell,.int .u64 imm,.slice ao nA ac,.int .i64 nx,.int .i64 el] 60)).heap.size=w.heap.size+1:=by simp
 clear hr hl hargs
 rcases op_cases ho0 ho1 with rfl | rfl | rfl | rfl | rfl | rfl | rfl | rfl | rfl | rfl | rfl | rfl | rfl | rfl | rfl | rfl | rfl | rfl | hop
 ·have HLR:=Lib.hid (lit_reads (w.alloc (.cells #[.int .u8 1,.int .u8 bop,.int .i64 d,.int .i64 e,.int .i64 a,.int .i64 b,.int .i64 f,.int .i64 cell,.int .u64 imm,.slice ao nA ac,.int .i64 nx,.int .i64 el] 60)) 3 (i64c [d]) 1 rfl)
  have HWF:Hid (∀ x ∈ [d],I64 x):=Lib.hid (by intro x hx;simp at hx;subst hx;assumption)
  have HW2:Hid (Below w.heap.size w ((w.alloc (.cells #[.int .u8 1,.int .u8 bop,.int .i64 d,.int .i64 e,.int .i64 a,.int .i64 b,.int .i64 f,.int .i64 cell,.int .u64 imm,.slice ao nA ac,.int .i64 nx,.int .i64 el] 60)).alloc (.cells #[.int .i64 d] 3))):=HW1.out.alloc (by simp) _
  have hs2:w.heap.size+1+1≤((w.alloc (.cells #[.int .u8 1,.int .u8 bop,.int .i64 d,.int .i64 e,.int .i64 a,.int .i64 b,.int .i64 f,.int .i64 cell,.int .u64 imm,.slice ao nA ac,.int .i64 nx,.int .i64 el] 60)).alloc (.cells #[.int .i64 d] 3)).heap.size:=by simp
  rw [hz1] at HLR
  go_enter Tryd.func64,Tryd.ntmps64
  go_wp2_with (first | (go_at_call 65;refine (placesOf_own (w.heap.size+1+1) _ 1 _ [d] _ HLR.out rfl HWF.out hs2 (by omega)).mono ?_;rintro ee w2 ⟨A2,c2,rfl,hr2,hc2,hb2⟩;have HR2:=Lib.hid hr2;have HB2:=Lib.hid hb2;clear hr2 hb2))
  go_ret
  exact NewO.mk' rfl rfl HR2.out hc2 HB2.out HW2.out
 ·have HLR:=Lib.hid (lit_reads (w.alloc (.cells #[.int .u8 2,.int .u8 bop,.int .i64 d,.int .i64 e,.int .i64 a,.int .i64 b,.int .i64 f,.int .i64 cell,.int .u64 imm,.slice ao nA ac,.int .i64 nx,.int .i64 el] 60)) 3 (i64c [d]) 1 rfl)
  have HWF:Hid (∀ x ∈ [d],I64 x):=Lib.hid (by intro x hx;simp at hx;subst hx;assumption)
  have HW2:Hid (Below w.heap.size w ((w.alloc (.cells #[.int .u8 2,.int .u8 bop,.int .i64 d,.int .i64 e,.int .i64 a,.int .i64 b,.int .i64 f,.int .i64 cell,.int .u64 imm,.slice ao nA ac,.int .i64 nx,.int .i64 el] 60)).alloc (.cells #[.int .i64 d] 3))):=HW1.out.alloc (by simp) _
  have hs2:w.heap.size+1+1≤((w.alloc (.cells #[.int .u8 2,.int .u8 bop,.int .i64 d,.int .i64 e,.int .i64 a,.int .i64 b,.int .i64 f,.int .i64 cell,.int .u64 imm,.slice ao nA ac,.int .i64 nx,.int .i64 el] 60)).alloc (.cells #[.int .i64 d] 3)).heap.size:=by simp
  rw [hz1] at HLR
  go_enter Tryd.func64,Tryd.ntmps64
  go_wp2_with (first | (go_at_call 65;refine (placesOf_own (w.heap.size+1+1) _ 1 _ [d] _ HLR.out rfl HWF.out hs2 (by omega)).mono ?_;rintro ee w2 ⟨A2,c2,rfl,hr2,hc2,hb2⟩;have HR2:=Lib.hid hr2;have HB2:=Lib.hid hb2;clear hr2 hb2))
  go_ret
  exact NewO.mk' rfl rfl HR2.out hc2 HB2.out HW2.out
 ·have HLR:=Lib.hid (lit_reads (w.alloc (.cells #[.int .u8 3,.int .u8 bop,.int .i64 d,.int .i64 e,.int .i64 a,.int .i64 b,.int .i64 f,.int .i64 cell,.int .u64 imm,.slice ao nA ac,.int .i64 nx,.int .i64 el] 60)) 3 (i64c [d]) 1 rfl)
  have HWF:Hid (∀ x ∈ [d],I64 x):=Lib.hid (by intro x hx;simp at hx;subst hx;assumption)
  have HW2:Hid (Below w.heap.size w ((w.alloc (.cells #[.int .u8 3,.int .u8 bop,.int .i64 d,.int .i64 e,.int .i64 a,.int .i64 b,.int .i64 f,.int .i64 cell,.int .u64 imm,.slice ao nA ac,.int .i64 nx,.int .i64 el] 60)).alloc (.cells #[.int .i64 d] 3))):=HW1.out.alloc (by simp) _
  have hs2:w.heap.size+1+1≤((w.alloc (.cells #[.int .u8 3,.int .u8 bop,.int .i64 d,.int .i64 e,.int .i64 a,.int .i64 b,.int .i64 f,.int .i64 cell,.int .u64 imm,.slice ao nA ac,.int .i64 nx,.int .i64 el] 60)).alloc (.cells #[.int .i64 d] 3)).heap.size:=by simp
  rw [hz1] at HLR
  go_enter Tryd.func64,Tryd.ntmps64
  go_wp2_with (first | (go_at_call 65;refine (placesOf_own (w.heap.size+1+1) _ 1 _ [d] _ HLR.out rfl HWF.out hs2 (by omega)).mono ?_;rintro ee w2 ⟨A2,c2,rfl,hr2,hc2,hb2⟩;have HR2:=Lib.hid hr2;have HB2:=Lib.hid hb2;clear hr2 hb2))
  go_ret
  exact NewO.mk' rfl rfl HR2.out hc2 HB2.out HW2.out
 ·have HLR:=Lib.hid (lit_reads (w.alloc (.cells #[.int .u8 4,.int .u8 bop,.int .i64 d,.int .i64 e,.int .i64 a,.int .i64 b,.int .i64 f,.int .i64 cell,.int .u64 imm,.slice ao nA ac,.int .i64 nx,.int .i64 el] 60)) 3 (i64c [d]) 1 rfl)
  have HWF:Hid (∀ x ∈ [d],I64 x):=Lib.hid (by intro x hx;simp at hx;subst hx;assumption)
  have HW2:Hid (Below w.heap.size w ((w.alloc (.cells #[.int .u8 4,.int .u8 bop,.int .i64 d,.int .i64 e,.int .i64 a,.int .i64 b,.int .i64 f,.int .i64 cell,.int .u64 imm,.slice ao nA ac,.int .i64 nx,.int .i64 el] 60)).alloc (.cells #[.int .i64 d] 3))):=HW1.out.alloc (by simp) _
  have hs2:w.heap.size+1+1≤((w.alloc (.cells #[.int .u8 4,.int .u8 bop,.int .i64 d,.int .i64 e,.int .i64 a,.int .i64 b,.int .i64 f,.int .i64 cell,.int .u64 imm,.slice ao nA ac,.int .i64 nx,.int .i64 el] 60)).alloc (.cells #[.int .i64 d] 3)).heap.size:=by simp
  rw [hz1] at HLR
  go_enter Tryd.func64,Tryd.ntmps64
  go_wp2_with (first | (go_at_call 65;refine (placesOf_own (w.heap.size+1+1) _ 1 _ [d] _ HLR.out rfl HWF.out hs2 (by omega)).mono ?_;rintro ee w2 ⟨A2,c2,rfl,hr2,hc2,hb2⟩;have HR2:=Lib.hid hr2;have HB2:=Lib.hid hb2;clear hr2 hb2))
  go_ret
  exact NewO.mk' rfl rfl HR2.out hc2 HB2.out HW2.out
 ·go_enter Tryd.func64,Tryd.ntmps64
  go_wp2
  go_ret
  exact NewO.mk' (l:=[]) rfl rfl (own_none _ _ _ _) (Nat.le_refl _) (Below.refl _ _) HW1.out
 ·have HLR:=Lib.hid (lit_reads (w.alloc (.cells #[.int .u8 6,.int .u8 bop,.int .i64 d,.int .i64 e,.int .i64 a,.int .i64 b,.int .i64 f,.int .i64 cell,.int .u64 imm,.slice ao nA ac,.int .i64 nx,.int .i64 el] 60)) 3 (i64c [d]) 1 rfl)
  have HWF:Hid (∀ x ∈ [d],I64 x):=Lib.hid (by intro x hx;simp at hx;subst hx;assumption)
  have HW2:Hid (Below w.heap.size w ((w.alloc (.cells #[.int .u8 6,.int .u8 bop,.int .i64 d,.int .i64 e,.int .i64 a,.int .i64 b,.int .i64 f,.int .i64 cell,.int .u64 imm,.slice ao nA ac,.int .i64 nx,.int .i64 el] 60)).alloc (.cells #[.int .i64 d] 3))):=HW1.out.alloc (by simp) _
  have hs2:w.heap.size+1+1≤((w.alloc (.cells #[.int .u8 6,.int .u8 bop,.int .i64 d,.int .i64 e,.int .i64 a,.int .i64 b,.int .i64 f,.int .i64 cell,.int .u64 imm,.slice ao nA ac,.int .i64 nx,.int .i64 el] 60)).alloc (.cells #[.int .i64 d] 3)).heap.size:=by simp
  rw [hz1] at HLR
  go_enter Tryd.func64,Tryd.ntmps64
  go_wp2_with (first | (go_at_call 65;refine (placesOf_own (w.heap.size+1+1) _ 1 _ [d] _ HLR.out rfl HWF.out hs2 (by omega)).mono ?_;rintro ee w2 ⟨A2,c2,rfl,hr2,hc2,hb2⟩;have HR2:=Lib.hid hr2;have HB2:=Lib.hid hb2;clear hr2 hb2))
  go_ret
  exact NewO.mk' rfl rfl HR2.out hc2 HB2.out HW2.out
 ·have HLR:=Lib.hid (lit_reads (w.alloc (.cells #[.int .u8 7,.int .u8 bop,.int .i64 d,.int .i64 e,.int .i64 a,.int .i64 b,.int .i64 f,.int .i64 cell,.int .u64 imm,.slice ao nA ac,.int .i64 nx,.int .i64 el] 60)) 3 (i64c [d]) 1 rfl)
  have HWF:Hid (∀ x ∈ [d],I64 x):=Lib.hid (by intro x hx;simp at hx;subst hx;assumption)
  have HW2:Hid (Below w.heap.size w ((w.alloc (.cells #[.int .u8 7,.int .u8 bop,.int .i64 d,.int .i64 e,.int .i64 a,.int .i64 b,.int .i64 f,.int .i64 cell,.int .u64 imm,.slice ao nA ac,.int .i64 nx,.int .i64 el] 60)).alloc (.cells #[.int .i64 d] 3))):=HW1.out.alloc (by simp) _
  have hs2:w.heap.size+1+1≤((w.alloc (.cells #[.int .u8 7,.int .u8 bop,.int .i64 d,.int .i64 e,.int .i64 a,.int .i64 b,.int .i64 f,.int .i64 cell,.int .u64 imm,.slice ao nA ac,.int .i64 nx,.int .i64 el] 60)).alloc (.cells #[.int .i64 d] 3)).heap.size:=by simp
  rw [hz1] at HLR
  go_enter Tryd.func64,Tryd.ntmps64
  go_wp2_with (first | (go_at_call 65;refine (placesOf_own (w.heap.size+1+1) _ 1 _ [d] _ HLR.out rfl HWF.out hs2 (by omega)).mono ?_;rintro ee w2 ⟨A2,c2,rfl,hr2,hc2,hb2⟩;have HR2:=Lib.hid hr2;have HB2:=Lib.hid hb2;clear hr2 hb2))
  go_ret
  exact NewO.mk' rfl rfl HR2.out hc2 HB2.out HW2.out
 ·go_enter Tryd.func64,Tryd.ntmps64
  go_wp2
  go_ret
  exact NewO.mk' (l:=[]) rfl rfl (own_none _ _ _ _) (Nat.le_refl _) (Below.refl _ _) HW1.out
 ·go_enter Tryd.func64,Tryd.ntmps64
  go_wp2
  go_ret
  exact NewO.mk' (l:=[]) rfl rfl (own_none _ _ _ _) (Nat.le_refl _) (Below.refl _ _) HW1.out
 ·go_enter Tryd.func64,Tryd.ntmps64
  go_wp2
  go_ret
  exact NewO.mk' (l:=[]) rfl rfl (own_none _ _ _ _) (Nat.le_refl _) (Below.refl _ _) HW1.out
 ·have HLR:=Lib.hid (lit_reads (w.alloc (.cells #[.int .u8 11,.int .u8 bop,.int .i64 d,.int .i64 e,.int .i64 a,.int .i64 b,.int .i64 f,.int .i64 cell,.int .u64 imm,.slice ao nA ac,.int .i64 nx,.int .i64 el] 60)) 3 (i64c [d]) 1 rfl)
  have HWF:Hid (∀ x ∈ [d],I64 x):=Lib.hid (by intro x hx;simp at hx;subst hx;assumption)
  have HW2:Hid (Below w.heap.size w ((w.alloc (.cells #[.int .u8 11,.int .u8 bop,.int .i64 d,.int .i64 e,.int .i64 a,.int .i64 b,.int .i64 f,.int .i64 cell,.int .u64 imm,.slice ao nA ac,.int .i64 nx,.int .i64 el] 60)).alloc (.cells #[.int .i64 d] 3))):=HW1.out.alloc (by simp) _
  have hs2:w.heap.size+1+1≤((w.alloc (.cells #[.int .u8 11,.int .u8 bop,.int .i64 d,.int .i64 e,.int .i64 a,.int .i64 b,.int .i64 f,.int .i64 cell,.int .u64 imm,.slice ao nA ac,.int .i64 nx,.int .i64 el] 60)).alloc (.cells #[.int .i64 d] 3)).heap.size:=by simp
  rw [hz1] at HLR
  go_enter Tryd.func64,Tryd.ntmps64
  go_wp2_with (first | (go_at_call 65;refine (placesOf_own (w.heap.size+1+1) _ 1 _ [d] _ HLR.out rfl HWF.out hs2 (by omega)).mono ?_;rintro ee w2 ⟨A2,c2,rfl,hr2,hc2,hb2⟩;have HR2:=Lib.hid hr2;have HB2:=Lib.hid hb2;clear hr2 hb2))
  go_ret
  exact NewO.mk' rfl rfl HR2.out hc2 HB2.out HW2.out
 ·go_enter Tryd.func64,Tryd.ntmps64
  go_wp2
  go_ret
  exact NewO.mk' (l:=[]) rfl rfl (own_none _ _ _ _) (Nat.le_refl _) (Below.refl _ _) HW1.out
 ·go_enter Tryd.func64,Tryd.ntmps64
  go_wp2
  go_ret
  exact NewO.mk' (l:=[]) rfl rfl (own_none _ _ _ _) (Nat.le_refl _) (Below.refl _ _) HW1.out
 ·go_enter Tryd.func64,Tryd.ntmps64
  go_wp2
  go_ret
  exact NewO.mk' (l:=[]) rfl rfl (own_none _ _ _ _) (Nat.le_refl _) (Below.refl _ _) HW1.out
 ·have HLR:=Lib.hid (lit_reads (w.alloc (.cells #[.int .u8 15,.int .u8 bop,.int .i64 d,.int .i64 e,.int .i64 a,.int .i64 b,.int .i64 f,.int .i64 cell,.int .u64 imm,.slice ao nA ac,.int .i64 nx,.int .i64 el] 60)) 3 (i64c [d,e]) 2 rfl)
  have HWF:Hid (∀ x ∈ [d,e],I64 x):=Lib.hid (by intro x hx;simp at hx;rcases hx with rfl | rfl <;> assumption)
  have HW2:Hid (Below w.heap.size w ((w.alloc (.cells #[.int .u8 15,.int .u8 bop,.int .i64 d,.int .i64 e,.int .i64 a,.int .i64 b,.int .i64 f,.int .i64 cell,.int .u64 imm,.slice ao nA ac,.int .i64 nx,.int .i64 el] 60)).alloc (.cells #[.int .i64 d,.int .i64 e] 3))):=HW1.out.alloc (by simp) _
  have hs2:w.heap.size+1+1≤((w.alloc (.cells #[.int .u8 15,.int .u8 bop,.int .i64 d,.int .i64 e,.int .i64 a,.int .i64 b,.int .i64 f,.int .i64 cell,.int .u64 imm,.slice ao nA ac,.int .i64 nx,.int .i64 el] 60)).alloc (.cells #[.int .i64 d,.int .i64 e] 3)).heap.size:=by simp
  rw [hz1] at HLR
  go_enter Tryd.func64,Tryd.ntmps64
  go_wp2_with (first | (go_at_call 65;refine (placesOf_own (w.heap.size+1+1) _ 2 _ [d,e] _ HLR.out rfl HWF.out hs2 (by omega)).mono ?_;rintro ee w2 ⟨A2,c2,rfl,hr2,hc2,hb2⟩;have HR2:=Lib.hid hr2;have HB2:=Lib.hid hb2;clear hr2 hb2))
  go_ret
  exact NewO.mk' rfl rfl HR2.out hc2 HB2.out HW2.out
 ·have HLR:=Lib.hid (lit_reads (w.alloc (.cells #[.int .u8 16,.int .u8 bop,.int .i64 d,.int .i64 e,.int .i64 a,.int .i64 b,.int .i64 f,.int .i64 cell,.int .u64 imm,.slice ao nA ac,.int .i64 nx,.int .i64 el] 60)) 3 (i64c [d]) 1 rfl)
  have HWF:Hid (∀ x ∈ [d],I64 x):=Lib.hid (by intro x hx;simp at hx;subst hx;assumption)
  have HW2:Hid (Below w.heap.size w ((w.alloc (.cells #[.int .u8 16,.int .u8 bop,.int .i64 d,.int .i64 e,.int .i64 a,.int .i64 b,.int .i64 f,.int .i64 cell,.int .u64 imm,.slice ao nA ac,.int .i64 nx,.int .i64 el] 60)).alloc (.cells #[.int .i64 d] 3))):=HW1.out.alloc (by simp) _
  have hs2:w.heap.size+1+1≤((w.alloc (.cells #[.int .u8 16,.int .u8 bop,.int .i64 d,.int .i64 e,.int .i64 a,.int .i64 b,.int .i64 f,.int .i64 cell,.int .u64 imm,.slice ao nA ac,.int .i64 nx,.int .i64 el] 60)).alloc (.cells #[.int .i64 d] 3)).heap.size:=by simp
  rw [hz1] at HLR
  go_enter Tryd.func64,Tryd.ntmps64
  go_wp2_with (first | (go_at_call 65;refine (placesOf_own (w.heap.size+1+1) _ 1 _ [d] _ HLR.out rfl HWF.out hs2 (by omega)).mono ?_;rintro ee w2 ⟨A2,c2,rfl,hr2,hc2,hb2⟩;have HR2:=Lib.hid hr2;have HB2:=Lib.hid hb2;clear hr2 hb2))
  go_ret
  exact NewO.mk' rfl rfl HR2.out hc2 HB2.out HW2.out
 ·go_enter Tryd.func64,Tryd.ntmps64
  go_wp2
  go_ret
  exact NewO.mk' (l:=[]) rfl rfl (own_none _ _ _ _) (Nat.le_refl _) (Below.refl _ _) HW1.out
 ·go_enter Tryd.func64,Tryd.ntmps64
  go_wp2
  go_ret
  exact NewO.mk' (l:=[]) rfl rfl (own_none _ _ _ _) (Nat.le_refl _) (Below.refl _ _) HW1.out
 ·have hL:writesOf ⟨op,bop,d,e,a,b,f,cell,imm,args,nx,el⟩=[]:=by
   unfold writesOf
   simp only [writeF]
   repeat rw [if_neg (by omega)]
   rfl
  have HLL:=Lib.hid hL
  clear hL
  have g1:(op == 1)=false:=by simp;omega
  have g2:(op == 2)=false:=by simp;omega
  have g3:(op == 3)=false:=by simp;omega
  have g4:(op == 4)=false:=by simp;omega
  have g6:(op == 6)=false:=by simp;omega
  have g7:(op == 7)=false:=by simp;omega
  have g11:(op == 11)=false:=by simp;omega
  have g16:(op == 16)=false:=by simp;omega
  have g15:(op == 15)=false:=by simp;omega
  go_enter Tryd.func64,Tryd.ntmps64
  go_wp2
  go_ret
  exact NewO.mk' HLL.out.symm rfl (own_none _ _ _ _) (Nat.le_refl _) (Below.refl _ _) HW1.out
end Go.Proofs.YtepkogfiojkcpaaDoor
