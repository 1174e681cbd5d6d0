/-
  Package kinds: goOn, the walk.
-/
import Derived.Test.YtcgoanfhabjpfaaKGo
import Derived.Test.YtcgoanfhabjpfaaKRefC
namespace Go.Proofs.Ytcgoanfhabjpfaa
set_option linter.unusedVariables false
open Go.ChangeShapes Go.WideShapes Go.ChangeAt Go.RowKit

def GoYes (w : World) (B g ra sa n c m : Nat) (A : Option Addr) (rs : List Raw) (r : Raw) (l : List (Option Stk)) (wl : List Nat) (wv : Value) (w' : World) : Prop :=
  ∃ l' wl' vs' WA' wk' wcap', WS w' B g ra sa A n c rs r m l' wl' vs' WA' wk' wcap' ∧ Inv (fns rs) r.fn l' wl' ∧ cnt l' ≤ cnt l ∧ 2 * cnt l' + wl'.length ≤ 2 * cnt l + wl.length ∧ ((Value.slice WA' wk' wcap').ownBlock = wv.ownBlock ∨ ∃ q, (Value.slice WA' wk' wcap').ownBlock = some q ∧ w.heap.size ≤ q)
def GoPost (w : World) (B g ra sa n c m : Nat) (A : Option Addr) (rs : List Raw) (r : Raw) (l : List (Option Stk)) (wl : List Nat) (wv : Value) (e : Ending) (w' : World) : Prop :=
  ∃ ok, e = .returned (.bool ok) ∧ Kp w w' (Ex g ra sa wv) ∧ ((ok = false ∧ ¬ Fine (fns rs) r.fn) ∨ (ok = true ∧ GoYes w B g ra sa n c m A rs r l wl wv w'))
theorem NewI.at_ {w : World} {l : List Nat} {B j b m : Nat} {A : Option Addr} (h : Reads w B 1 A m (intc l)) (hj : j < m) : ∃ bl off x, A = some ⟨bl, off, none⟩ ∧ bl < B ∧ Hid (l[j]? = some x) ∧ w.cell? ⟨bl, off + j, none⟩ = some (.int .i64 (x : Int)) := by
  obtain ⟨bl, off, rfl, hb, hc⟩ := h.lit (by omega) (by omega)
  have hl : j < l.length := by have := h.1; unfold intc at this; rw [List.length_map] at this; omega
  refine ⟨bl, off, l[j], rfl, hb, List.getElem?_eq_getElem hl, hc j _ ?_⟩
  unfold intc
  rw [List.getElem?_map, List.getElem?_eq_getElem hl]
  rfl

set_option maxRecDepth 100000 in
set_option maxHeartbeats 6400000 in
theorem goOn_any (B g ra sa n c m wk wcap a : Nat) (A WA : Option Addr) (rs : List Raw) (r : Raw) (l : List (Option Stk)) (wl : List Nat) (vs : List Value) (w : World)
    (h : WS w B g ra sa A n c rs r m l wl vs WA wk wcap) (hinv : Inv (fns rs) r.fn l (a :: wl)) (href : ∀ i ∈ r.fn.code, insRef (fns rs) r.fn i = true) (hM : 2 * cnt l + wl.length ≤ 2000) :
    Calls Try.prog 47 #[.pointer (some ⟨g, 0, none⟩), .int .i64 a] w (GoPost w B g ra sa n c m A rs r l wl (.slice WA wk wcap)) := by
  obtain ⟨s, hla⟩ := hinv.opened a (by simp)
  have ham : a < m := by rw [← h.len]; exact (List.getElem?_eq_some_iff.1 hla).1
  have hm := h.small
  obtain ⟨b1, off, i, hco, hb1, HI, x0, x1, x2⟩ := h.wkr.fn.code.ins (k := a) (by rw [h.clen]; exact ham)
  have hmem : i ∈ r.fn.code := List.mem_of_getElem? HI.out
  have hir := href i hmem
  have hi0 : 0 ≤ i.arg := okI_arg ((okF_iff.1 h.wkr.okf).2.2.2.2.2.2.2 i hmem)
  obtain ⟨av, q, k, hv, hq, ho⟩ := h.vat a (some s) hla
  simp only [Option.getD_some] at hq ho
  have hshort := hinv.short a s hla
  have hll : l.length = m := h.len
  have hq5 : q ≤ 50000 := by omega
  have e1 : w.cell? ⟨sa, a, none⟩ = some (.slice av q k) := by
    rw [h.stacks.cell]
    simpa using hv
  obtain ⟨d0, d1, d2, d3, d4, d5, d6, d7, d8⟩ := h.wkr.cells
  rw [h.clen, hco] at d5
  have hg := h.wkr.blk.lt
  have hsal := h.stacks.lt
  have hral := h.reached.lt
  have hb1w : b1 < w.heap.size := by have := h.wkr.le; omega
  have hqk := own_cap ho
  have H := Lib.hid h
  have HINV := Lib.hid hinv
  have HLA := Lib.hid hla
  have HIR := Lib.hid hir
  have HSH := Lib.hid hshort
  have HLL := Lib.hid hll
  have HO := Lib.hid ho
  have HWB : Hid (Below w.heap.size w (w.alloc (.cells #[.int .u8 i.op, .int .i64 i.arg, .int .u64 i.imm] 51)).drew) := Lib.hid ((Below.refl _ _).alloc (Nat.le_refl _) _).drew
  have HBE := Lib.hid (behind_any B g n c A rs r _ _ _ i s av q k _ (h.wkr.below HWB.out) hir hi0 ((Reads.of_own ho |>.below HWB.out).more HWB.out.size) hqk hq5)
  have hia : i.arg ≤ 9223372036854775807 := (h.wkr.wf.code i hmem).a1
  clear h hinv hla hir ho hshort hv hq href hll d0 d1 d2 d3 d4 d6 d8
  go_enter Try.func47, Try.ntmps47
  go_upto_region 2 with fail
  go_cut [6, 7] (fun s6 s7 wx => ∃ S5 q5 c5 ok, s6 = .slice S5 q5 c5 ∧ s7 = .bool ok ∧ Hid (Below w.heap.size w wx) ∧ Hid (Blk wx w.heap.size 51 #[.int .u8 i.op, .int .i64 i.arg, .int .u64 i.imm]) ∧
    Hid ((ok = false ∧ afterK (fns rs) r.fn i s = none) ∨ (ok = true ∧ ∃ s', afterK (fns rs) r.fn i s = some s' ∧ s'.length = q5 ∧ wx.ownsRow w.heap.size 57 1 (.slice S5 q5 c5) q5 (u8c s'))))
  case first =>
    have HBX : Hid (Blk (w.alloc (.cells #[.int .u8 i.op, .int .i64 i.arg, .int .u64 i.imm] 51)).drew w.heap.size 51 #[.int .u8 i.op, .int .i64 i.arg, .int .u64 i.imm]) := Lib.hid (Blk.new w _ _).drew
    go_region_law (first
      | (go_simp; go_at_call 56; refine HBE.out.mono ?_; rintro e w3 ⟨S5, q5, c5, ok, rfl, hb3, hcase⟩; have HB3 := Lib.hid (HWB.out.trans (hb3.mono HWB.out.size)); have HX3 := Lib.hid (HBX.out.below hb3 HBX.out.lt); have HCASE := Lib.hid hcase; clear hb3 hcase))
    all_goals
      go_wp2
      go_meet
    all_goals
      refine ⟨S5, q5, c5, ok, rfl, rfl, HB3, HX3, Lib.hid (HCASE.out.imp (fun h => h) fun ⟨h1, s', h2, h3, h4⟩ => ⟨h1, s', h2, h3, own_more h4 HWB.out.size⟩)⟩
  case rest =>
    obtain ⟨S5, q5, c5, ok, rfl, rfl, HB3, HX3, HCASE⟩ := hcut
    clear d5 d7 e1 x0 x1 x2
    rcases HCASE.out with ⟨rfl, hn⟩ | ⟨rfl, s', hs', hl5, ho5⟩
    · have HNF : Hid (¬ Fine (fns rs) r.fn) := Lib.hid (not_fine_after (HINV.out.sound a s HLA.out) HI.out hn)
      clear hn
      go_wp2
      go_ret
      exact ⟨false, rfl, Kp.of_below HB3.out _, .inl ⟨rfl, HNF.out⟩⟩
    · have HAFT := Lib.hid hs'
      have hz3 := HB3.out.size
      have x0 : wc.cell? ⟨w.heap.size, 0, none⟩ = some (.int .u8 i.op) := HX3.out.cell 0
      have x1 : wc.cell? ⟨w.heap.size, 1, none⟩ = some (.int .i64 i.arg) := HX3.out.cell 1
      have x2 : wc.cell? ⟨w.heap.size, 2, none⟩ = some (.int .u64 i.imm) := HX3.out.cell 2
      have HO5 := Lib.hid ho5
      have HL5 := Lib.hid hl5
      have hq5' : q5 ≤ 50000 := by have h1 := afterK_len hs'; have h2 := HSH.out; have h3 := HLL.out; omega
      have HSL : Hid (s'.length + 2 * cnt l ≤ 2 * l.length) := Lib.hid (by have h1 := afterK_len hs'; have h2 := HSH.out; omega)
      have HSU := Lib.hid (succ_any a i wc (by omega) hi0)
      clear hs' hl5 ho5
      go_wp2_with (go_at_call 57; refine HSU.out.mono ?_; rintro e w4 ⟨SU, sm, rfl, hsm, hsr, hsb, hb4⟩; have HB4 := Lib.hid hb4; have HSM := Lib.hid hsm; have HSR := Lib.hid hsr; have HSB := Lib.hid hsb; clear hb4 hsm hsr hsb)
      have hsm2 : sm ≤ 2 := by rw [HSM.out]; exact succK_len a i
      have HGC : Hid (GC w w4 B g ra sa rs r l (.slice WA wk wcap) a i s s' SU sm) := Lib.hid ⟨HI.out, HAFT.out, by have := HB4.out.size; omega, hg, hral, hsal, fun q hq => (own_lt H.out.wait hq).2, fun hp ad had => ⟨by have := HSB.out ad had; omega, by obtain ⟨ad', he, hlt, _⟩ := HSR.out.2 hp; rw [had] at he; injection he with he; subst he; exact hlt⟩, HSL.out⟩
      have hz4 : wc.heap.size ≤ w4.heap.size := HB4.out.size
      have HB40 := Lib.hid (HB3.out.trans (HB4.out.mono hz3))
      have HG0 : Hid (GI w w4 B g ra sa n c m A rs r l wl (.slice WA wk wcap) a i s s' SU sm S5 q5 c5 0 w4 l wl vs WA wk wcap) := Lib.hid ⟨H.out.below HB40.out, HINV.out, HLA.out, (fun b hb => by simp at hb), Nat.le_refl _, Nat.le_refl _, .inl rfl, Kp.of_below HB40.out _, HSR.out, own_kept HO5.out (fun q hq => HB4.out.block q (own_lt HO5.out hq).2), Nat.le_refl _⟩
      clear x0 x1 x2 HX3 HCASE
      go_wp2
      go_loopw [37] (fun x wr => ∃ (j : Nat) (l' : List (Option Stk)) (wl' : List Nat) (vs' : List Value) (WA' : Option Addr) (wk' wcap' : Nat), j ≤ sm ∧ x = .int .i64 j ∧ Hid (GI w w4 B g ra sa n c m A rs r l wl (.slice WA wk wcap) a i s s' SU sm S5 q5 c5 j wr l' wl' vs' WA' wk' wcap')) (fun x _ => sm - (intOf x).toNat)
      case atStart => exact ⟨0, l, wl, vs, WA, wk, wcap, Nat.zero_le _, rfl, HG0⟩
      case round =>
        clear HG0
        obtain ⟨j, l', wl', vs', WA', wk', wcap', hj, rfl, HGI⟩ := hrel
        have hzr := HGI.out.size
        by_cases hlt : j < sm
        · obtain ⟨bl, offl, b, hSU, hbl, HJ, y0⟩ := NewI.at_ (b := 0) HGI.out.su hlt
          have hmemb : b ∈ succK a i := List.mem_of_getElem? HJ.out
          have hb1000 : b ≤ 1000 := succ_le hmemb ham hm HIR.out (by have := H.out.clen; exact this) hi0
          have hwk' : wk' ≤ 100000 := by have h1 := HGI.out.meas; have h2 := HGI.out.ws.wlen; omega
          have HAR := Lib.hid (arrive_any B g ra sa n c m wk' wcap' b q5 c5 w.heap.size A WA' S5 rs r l' wl' vs' s' wr HGI.out.ws HGI.out.st hq5' (fun jj s2 h2 => by have h3 := HGI.out.inv.short jj s2 h2; have h4 := HGI.out.ws.len; omega) hwk' (by omega))
          subst hSU
          clear hmemb
          go_wp2_with (go_at_call 46; refine HAR.out.mono ?_; rintro e w5 ⟨ok, rfl, hkp, hcase⟩; have HKP := Lib.hid hkp; have HC5 := Lib.hid hcase; clear hkp hcase; refine Hid.out ?_)
          rcases HC5.out with ⟨rfl, hbad⟩ | ⟨rfl, hy⟩
          · have HNF : Hid (¬ Fine (fns rs) r.fn) := Lib.hid (by
              have hr := HGI.out.inv.step HGI.out.at_ HI.out HAFT.out (List.mem_of_getElem? HJ.out)
              rcases hbad with hmb | ⟨s2, h2, hne⟩
              · exact not_fine_code hr (List.getElem?_eq_none (by rw [H.out.clen]; exact hmb))
              · exact not_fine_two (HGI.out.inv.sound b s2 h2) hr hne)
            clear hbad
            refine Lib.hid ?_
            go_wp2
            go_ret
            exact ⟨false, rfl, HGI.out.kp.trans HKP.out (fun q hq hx => HGI.out.exle HGC.out q (by have := HGC.out.lt4; omega) hx), .inl ⟨rfl, HNF.out⟩⟩
          · obtain ⟨l2, wl2, vs2, WA2, wk2, wcap2, hgi⟩ := HGI.out.next HGC.out (by rw [HGI.out.inv.len, HINV.out.len]) HJ.out HKP.out hy
            have HG2 := Lib.hid hgi
            clear hy hgi
            refine Lib.hid ?_
            go_wp2
            go_roundw
            case rel => exact ⟨j + 1, l2, wl2, vs2, WA2, wk2, wcap2, by omega, by go_num, HG2⟩
            case measure => simp [intOf]; omega
        · obtain rfl : j = sm := by omega
          clear hlt hj
          go_wp2
          go_ret
          refine ⟨true, rfl, HGI.out.kp, .inr ⟨rfl, l', wl', vs', WA', wk', wcap', HGI.out.ws, HGI.out.inv.close HGI.out.at_ HI.out HAFT.out (fun b hb => HGI.out.done b ?_), HGI.out.cnt_, HGI.out.meas, ?_⟩⟩
          · rw [List.take_of_length_le (by rw [HSM.out]; omega)]; exact hb
          · rcases HGI.out.wait with hw | ⟨qq, hq1, hq2⟩
            · exact .inl hw
            · exact .inr ⟨qq, hq1, by have := HGC.out.lt4; omega⟩
end Go.Proofs.Ytcgoanfhabjpfaa
