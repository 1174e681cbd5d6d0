/-
  Texts of one seat, one behind the other: BNod.
-/
import Derived.Test.YtgekmjkfnhogkaaMA11
import Derived.Test.YtgekmjkfnhogkaaMA37
import Derived.Test.YtgekmjkfnhogkaaMA38
import Derived.Test.YtgekmjkfnhogkaaMA39

set_option linter.unusedVariables false
set_option linter.unusedSimpArgs false
set_option maxRecDepth 100000
set_option maxHeartbeats 51200000
namespace Go.Proofs.Ytgekmjkfnhogkaa
open Go.ChangeShapes Go.WideShapes Go.ChangeAt Go.RowKit
theorem node_any {W:World} {B bb n nc cc sb so sm sc nn nnc k ssc:Nat} {fa ca na SA:Option Addr} {rs:List Q.Raw} {r:Q.Raw} {cells nodes:List Int} {s s':Q.Stk} {i:Q.Ins} (h:BR W B bb fa n nc rs r ca cc cells) (hB:B≤W.heap.size)
  (h5:W.cell? ⟨bb,5,none⟩=some (.slice r.co r.fn.code.length r.cc)) (hco:Reads W B 3 r.co r.fn.code.length (Q.insc r.fn.code)) (hi:r.fn.code[k]?=some i) (hm:r.fn.code.length≤100000)
  (h6:W.cell? ⟨bb,6,none⟩=some (.slice (some ⟨sb,so,none⟩) sm sc)) (hsb:sb<B) (hks:k<sm) (x6:W.cell? ⟨sb,so+k,none⟩=some (.slice SA s.length ssc)) (hs:Reads W B 1 SA s.length (u8c s)) (hsl:s.length≤100000) (hsk:∀ x ∈ s,0≤x∧x≤255)
  (h7:W.cell? ⟨bb,7,none⟩=some (.slice na nn nnc)) (hno:Reads W B 1 na nn (i64c nodes)) (hnl:nodes.length=nn) (hnn:nn=r.fn.code.length)
  (hok:Q.okI i=true) (href:Q.insRef (Q.fns rs) r.fn i=true) (haf:Q.afterK (Q.fns rs) r.fn i s=some s') (hsu:∀ b ∈ Q.succK k i,b<r.fn.code.length) (hpar:ParOk rs) (hlk:∀ x ∈ r.fn.locals,0≤x∧x≤255) :
  Calls Try.prog 35 #[.pointer (some ⟨bb,0,none⟩),.int .i64 k] W (EffPost W (nodeB (Q.fns rs) r.fn cells nodes k i s)):=by
 have hk:k<r.fn.code.length:=(List.getElem?_eq_some_iff.1 hi).1
 have hbb:=h.lt
 obtain ⟨cb,co,hcoe,hcb,hcc⟩:=hco.lit (by omega) (by omega)
 rw [hcoe] at h5
 obtain ⟨y0,y1,y2⟩:=Q.insc_at hi
 have x0:=hcc _ _ y0
 have x1:=hcc _ _ y1
 have x2:=hcc _ _ y2
 rw [← Nat.add_assoc] at x1 x2
 have heff:∀ wr,Below W.heap.size W wr→Calls Try.prog 61 #[.pointer (some ⟨bb,0,none⟩),.agg #[.int .u8 i.op,.int .i64 i.arg,.int .u64 i.imm],.slice SA s.length ssc] wr (EffPost wr (effB (Q.fns rs) r.fn cells i s)):=fun wr hb =>
  effect_any (h.below (hb.mono hB)) (Nat.le_trans hB hb.size) (hs.below (hb.mono hB)) hsl hsk hok href haf hpar hlk
 have hop:1≤i.op∧i.op≤32:=by
  unfold Q.okI Q.opB at hok
  simp at hok
  omega
 have harg:i.op=21∨i.op=22→0≤i.arg:=fun ho=>by
  unfold Q.okI Q.fitB at hok
  simp at hok
  omega
 by_cases he:i.op=24∨i.op=26∨i.op=30
 ·have hv:nodeB (Q.fns rs) r.fn cells nodes k i s=effB (Q.fns rs) r.fn cells i s:=by
   unfold nodeB
   simp only
   rw [if_pos he]
  rw [hv]
  exact node_end (nc:=0) (nn:=0) (na:=none) (k1:=0) i.op i.arg i.imm (by omega) h5 (by omega) hk hm x0 x1 x2 h6 (by omega) hks x6 heff he
 obtain ⟨nb,no,hna,hnb,hnc⟩:=hno.lit (by omega) (by omega)
 rw [hna] at h7
 have at_:∀ j,j<nn→W.cell? ⟨nb,no+j,none⟩=some (.int .i64 (nodes.getD j 0)):=fun j hj=>hnc j _ (i64c_at (list_at (by omega)))
 by_cases hj:i.op=21
 ·obtain ⟨a,ha⟩:∃ a:Nat,i.arg=a:=⟨i.arg.toNat,by have:=harg (.inl hj);omega⟩
  have hal:a<nn:=by
   have:=hsu a (by unfold Q.succK;rw [if_pos hj,ha];simp)
   omega
  have hv:nodeB (Q.fns rs) r.fn cells nodes k i s={ effB (Q.fns rs) r.fn cells i s with next:=nodes.getD a 0 }:=by
   unfold nodeB
   simp only
   rw [if_neg he,if_pos hj,ha,Int.toNat_natCast]
  rw [hv]
  exact node_jump (na:=none) (k1:=0) i.op i.arg i.imm (by omega) h5 (by omega) hk hm x0 x1 x2 h6 (by omega) hks x6 heff h7 (by omega) ha hal (by omega) (at_ a hal) hj
 by_cases hz:i.op=22
 ·obtain ⟨a,ha⟩:∃ a:Nat,i.arg=a:=⟨i.arg.toNat,by have:=harg (.inr hz);omega⟩
  have hs2:Q.succK k i=[k+1,i.arg.toNat]:=by unfold Q.succK;rw [if_neg hj,if_pos hz]
  have hal:a<nn:=by
   have:=hsu a (by rw [hs2,ha];simp)
   omega
  have hkl:k+1<nn:=by
   have:=hsu (k+1) (by rw [hs2];simp)
   omega
  have hv:nodeB (Q.fns rs) r.fn cells nodes k i s={ effB (Q.fns rs) r.fn cells i s with next:=nodes.getD (k+1) 0,els:=nodes.getD a 0 }:=by
   unfold nodeB
   simp only
   rw [if_neg he,if_neg hj,if_pos hz,ha,Int.toNat_natCast]
  rw [hv]
  exact node_zero (na:=none) i.op i.arg i.imm (by omega) h5 (by omega) hk hm x0 x1 x2 h6 (by omega) hks x6 heff h7 (by omega) rfl hkl (at_ _ hkl) ha hal (by omega) (at_ a hal) hz
 ·have hkl:k+1<nn:=by
   have:=hsu (k+1) (by unfold Q.succK;rw [if_neg hj,if_neg hz,if_neg he];simp)
   omega
  have hv:nodeB (Q.fns rs) r.fn cells nodes k i s={ effB (Q.fns rs) r.fn cells i s with next:=nodes.getD (k+1) 0 }:=by
   unfold nodeB
   simp only
   rw [if_neg he,if_neg hj,if_neg hz]
  rw [hv]
  exact node_next (na:=none) i.op i.arg i.imm (by omega) h5 (by omega) hk hm x0 x1 x2 h6 (by omega) hks x6 heff h7 (by omega) rfl hkl (at_ _ hkl) (by omega)
end Go.Proofs.Ytgekmjkfnhogkaa
