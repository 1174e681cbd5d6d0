/-
  Texts of one seat, one behind the other: KGoW, SameA, RefSame, KWalk, KAll, KAllW, AllB, Ops, Put, Has.
-/
import Derived.Deep.RegionHeld3
import Derived.Deep.DeepCutAuto
import Derived.Deep.LoopGhost
import Derived.Deep.OwnRows
import Derived.Test.YtdoabcmfblmklaaMA6
import Derived.Test.YtdoabcmfblmklaaMA1

/-
  Package kinds: goOn, the walk.
-/
namespace Go.Proofs.Ytdoabcmfblmklaa
set_option linter.unusedVariables false
open Go.ChangeShapes Go.WideShapes Go.ChangeAt Go.RowKit

def GoYes (w : World) (B g ra sa n c m : Nat) (A : Option Addr) (rs : List Raw) (r : Raw) (l : List (Option Stk)) (wl : List Nat) (wv : Value) (w' : World) : Prop :=
  ∃ l' wl' vs' WA' wk' wcap', WS w' B g ra sa A n c rs r m l' wl' vs' WA' wk' wcap' ∧ Inv (fns rs) r.fn l' wl' ∧ cnt l' ≤ cnt l ∧ 2 * cnt l' + wl'.length ≤ 2 * cnt l + wl.length ∧ ((Value.slice WA' wk' wcap').ownBlock = wv.ownBlock ∨ ∃ q, (Value.slice WA' wk' wcap').ownBlock = some q ∧ w.heap.size ≤ q)
def GoPost (w : World) (B g ra sa n c m : Nat) (A : Option Addr) (rs : List Raw) (r : Raw) (l : List (Option Stk)) (wl : List Nat) (wv : Value) (e : Ending) (w' : World) : Prop :=
  ∃ ok, e = .returned (.bool ok) ∧ Kp w w' (Ex g ra sa wv) ∧ ((ok = false ∧ ¬ Fine (fns rs) r.fn) ∨ (ok = true ∧ GoYes w B g ra sa n c m A rs r l wl wv w'))
theorem NewI.at_ {w : World} {l : List Nat} {B j b m : Nat} {A : Option Addr} (h : Reads w B 1 A m (intc l)) (hj : j < m) : ∃ bl off x, A = some ⟨bl, off, none⟩ ∧ bl < B ∧ Hid (l[j]? = some x) ∧ w.cell? ⟨bl, off + j, none⟩ = some (.int .i64 (x : Int)) := by
  obtain ⟨bl, off, rfl, hb, hc⟩ := h.lit (by omega) (by omega)
  have hl : j < l.length := by have := h.1; unfold intc at this; rw [List.length_map] at this; omega
  refine ⟨bl, off, l[j], rfl, hb, List.getElem?_eq_getElem hl, hc j _ ?_⟩
  unfold intc
  rw [List.getElem?_map, List.getElem?_eq_getElem hl]
  rfl

set_option maxRecDepth 100000 in
set_option maxHeartbeats 6400000 in
theorem goOn_any (B g ra sa n c m wk wcap a : Nat) (A WA : Option Addr) (rs : List Raw) (r : Raw) (l : List (Option Stk)) (wl : List Nat) (vs : List Value) (w : World)
    (h : WS w B g ra sa A n c rs r m l wl vs WA wk wcap) (hinv : Inv (fns rs) r.fn l (a :: wl)) (href : ∀ i ∈ r.fn.code, insRef (fns rs) r.fn i = true) (hM : 2 * cnt l + wl.length ≤ 2000) :
    Calls Try.prog 63 #[.pointer (some ⟨g, 0, none⟩), .int .i64 a] w (GoPost w B g ra sa n c m A rs r l wl (.slice WA wk wcap)) := by
  obtain ⟨s, hla⟩ := hinv.opened a (by simp)
  have ham : a < m := by rw [← h.len]; exact (List.getElem?_eq_some_iff.1 hla).1
  have hm := h.small
  obtain ⟨b1, off, i, hco, hb1, HI, x0, x1, x2⟩ := h.wkr.fn.code.ins (k := a) (by rw [h.clen]; exact ham)
  have hmem : i ∈ r.fn.code := List.mem_of_getElem? HI.out
  have hir := href i hmem
  have hi0 : 0 ≤ i.arg := okI_arg ((okF_iff.1 h.wkr.okf).2.2.2.2.2.2.2 i hmem)
  obtain ⟨av, q, k, hv, hq, ho⟩ := h.vat a (some s) hla
  simp only [Option.getD_some] at hq ho
  have hshort := hinv.short a s hla
  have hll : l.length = m := h.len
  have hq5 : q ≤ 50000 := by omega
  have e1 : w.cell? ⟨sa, a, none⟩ = some (.slice av q k) := by
    rw [h.stacks.cell]
    simpa using hv
  obtain ⟨d0, d1, d2, d3, d4, d5, d6, d7, d8⟩ := h.wkr.cells
  rw [h.clen, hco] at d5
  have hg := h.wkr.blk.lt
  have hsal := h.stacks.lt
  have hral := h.reached.lt
  have hb1w : b1 < w.heap.size := by have := h.wkr.le; omega
  have hqk := own_cap ho
  have H := Lib.hid h
  have HINV := Lib.hid hinv
  have HLA := Lib.hid hla
  have HIR := Lib.hid hir
  have HSH := Lib.hid hshort
  have HLL := Lib.hid hll
  have HO := Lib.hid ho
  have HWB : Hid (Below w.heap.size w (w.alloc (.cells #[.int .u8 i.op, .int .i64 i.arg, .int .u64 i.imm] 43)).drew) := Lib.hid ((Below.refl _ _).alloc (Nat.le_refl _) _).drew
  have HBE := Lib.hid (behind_any B g n c A rs r _ _ _ i s av q k _ (h.wkr.below HWB.out) hir hi0 ((Reads.of_own ho |>.below HWB.out).more HWB.out.size) hqk hq5)
  have hia : i.arg ≤ 9223372036854775807 := (h.wkr.wf.code i hmem).a1
  clear h hinv hla hir ho hshort hv hq href hll d0 d1 d2 d3 d4 d6 d8
  go_enter Try.func63, Try.ntmps63
  go_upto_region 2 with fail
  go_cut [6, 7] (fun s6 s7 wx => ∃ S5 q5 c5 ok, s6 = .slice S5 q5 c5 ∧ s7 = .bool ok ∧ Hid (Below w.heap.size w wx) ∧ Hid (Blk wx w.heap.size 43 #[.int .u8 i.op, .int .i64 i.arg, .int .u64 i.imm]) ∧
    Hid ((ok = false ∧ afterK (fns rs) r.fn i s = none) ∨ (ok = true ∧ ∃ s', afterK (fns rs) r.fn i s = some s' ∧ s'.length = q5 ∧ wx.ownsRow w.heap.size 47 1 (.slice S5 q5 c5) q5 (u8c s'))))
  case first =>
    have HBX : Hid (Blk (w.alloc (.cells #[.int .u8 i.op, .int .i64 i.arg, .int .u64 i.imm] 43)).drew w.heap.size 43 #[.int .u8 i.op, .int .i64 i.arg, .int .u64 i.imm]) := Lib.hid (Blk.new w _ _).drew
    go_region_law (first
      | (go_simp; go_at_call 76; refine HBE.out.mono ?_; rintro e w3 ⟨S5, q5, c5, ok, rfl, hb3, hcase⟩; have HB3 := Lib.hid (HWB.out.trans (hb3.mono HWB.out.size)); have HX3 := Lib.hid (HBX.out.below hb3 HBX.out.lt); have HCASE := Lib.hid hcase; clear hb3 hcase))
    all_goals
      go_wp2
      go_meet
    all_goals
      refine ⟨S5, q5, c5, ok, rfl, rfl, HB3, HX3, Lib.hid (HCASE.out.imp (fun h => h) fun ⟨h1, s', h2, h3, h4⟩ => ⟨h1, s', h2, h3, own_more h4 HWB.out.size⟩)⟩
  case rest =>
    obtain ⟨S5, q5, c5, ok, rfl, rfl, HB3, HX3, HCASE⟩ := hcut
    clear d5 d7 e1 x0 x1 x2
    rcases HCASE.out with ⟨rfl, hn⟩ | ⟨rfl, s', hs', hl5, ho5⟩
    · have HNF : Hid (¬ Fine (fns rs) r.fn) := Lib.hid (not_fine_after (HINV.out.sound a s HLA.out) HI.out hn)
      clear hn
      go_wp2
      go_ret
      exact ⟨false, rfl, Kp.of_below HB3.out _, .inl ⟨rfl, HNF.out⟩⟩
    · have HAFT := Lib.hid hs'
      have hz3 := HB3.out.size
      have x0 : wc.cell? ⟨w.heap.size, 0, none⟩ = some (.int .u8 i.op) := HX3.out.cell 0
      have x1 : wc.cell? ⟨w.heap.size, 1, none⟩ = some (.int .i64 i.arg) := HX3.out.cell 1
      have x2 : wc.cell? ⟨w.heap.size, 2, none⟩ = some (.int .u64 i.imm) := HX3.out.cell 2
      have HO5 := Lib.hid ho5
      have HL5 := Lib.hid hl5
      have hq5' : q5 ≤ 50000 := by have h1 := afterK_len hs'; have h2 := HSH.out; have h3 := HLL.out; omega
      have HSL : Hid (s'.length + 2 * cnt l ≤ 2 * l.length) := Lib.hid (by have h1 := afterK_len hs'; have h2 := HSH.out; omega)
      have HSU := Lib.hid (succ_any a i wc (by omega) hi0)
      clear hs' hl5 ho5
      go_wp2_with (go_at_call 77; refine HSU.out.mono ?_; rintro e w4 ⟨SU, sm, rfl, hsm, hsr, hsb, hb4⟩; have HB4 := Lib.hid hb4; have HSM := Lib.hid hsm; have HSR := Lib.hid hsr; have HSB := Lib.hid hsb; clear hb4 hsm hsr hsb)
      have hsm2 : sm ≤ 2 := by rw [HSM.out]; exact succK_len a i
      have HGC : Hid (GC w w4 B g ra sa rs r l (.slice WA wk wcap) a i s s' SU sm) := Lib.hid ⟨HI.out, HAFT.out, by have := HB4.out.size; omega, hg, hral, hsal, fun q hq => (own_lt H.out.wait hq).2, fun hp ad had => ⟨by have := HSB.out ad had; omega, by obtain ⟨ad', he, hlt, _⟩ := HSR.out.2 hp; rw [had] at he; injection he with he; subst he; exact hlt⟩, HSL.out⟩
      have hz4 : wc.heap.size ≤ w4.heap.size := HB4.out.size
      have HB40 := Lib.hid (HB3.out.trans (HB4.out.mono hz3))
      have HG0 : Hid (GI w w4 B g ra sa n c m A rs r l wl (.slice WA wk wcap) a i s s' SU sm S5 q5 c5 0 w4 l wl vs WA wk wcap) := Lib.hid ⟨H.out.below HB40.out, HINV.out, HLA.out, (fun b hb => by simp at hb), Nat.le_refl _, Nat.le_refl _, .inl rfl, Kp.of_below HB40.out _, HSR.out, own_kept HO5.out (fun q hq => HB4.out.block q (own_lt HO5.out hq).2), Nat.le_refl _⟩
      clear x0 x1 x2 HX3 HCASE
      go_wp2
      go_loopw [37] (fun x wr => ∃ (j : Nat) (l' : List (Option Stk)) (wl' : List Nat) (vs' : List Value) (WA' : Option Addr) (wk' wcap' : Nat), j ≤ sm ∧ x = .int .i64 j ∧ Hid (GI w w4 B g ra sa n c m A rs r l wl (.slice WA wk wcap) a i s s' SU sm S5 q5 c5 j wr l' wl' vs' WA' wk' wcap')) (fun x _ => sm - (intOf x).toNat)
      case atStart => exact ⟨0, l, wl, vs, WA, wk, wcap, Nat.zero_le _, rfl, HG0⟩
      case round =>
        clear HG0
        obtain ⟨j, l', wl', vs', WA', wk', wcap', hj, rfl, HGI⟩ := hrel
        have hzr := HGI.out.size
        by_cases hlt : j < sm
        · obtain ⟨bl, offl, b, hSU, hbl, HJ, y0⟩ := NewI.at_ (b := 0) HGI.out.su hlt
          have hmemb : b ∈ succK a i := List.mem_of_getElem? HJ.out
          have hb1000 : b ≤ 1000 := succ_le hmemb ham hm HIR.out (by have := H.out.clen; exact this) hi0
          have hwk' : wk' ≤ 100000 := by have h1 := HGI.out.meas; have h2 := HGI.out.ws.wlen; omega
          have HAR := Lib.hid (arrive_any B g ra sa n c m wk' wcap' b q5 c5 w.heap.size A WA' S5 rs r l' wl' vs' s' wr HGI.out.ws HGI.out.st hq5' (fun jj s2 h2 => by have h3 := HGI.out.inv.short jj s2 h2; have h4 := HGI.out.ws.len; omega) hwk' (by omega))
          subst hSU
          clear hmemb
          go_wp2_with (go_at_call 62; refine HAR.out.mono ?_; rintro e w5 ⟨ok, rfl, hkp, hcase⟩; have HKP := Lib.hid hkp; have HC5 := Lib.hid hcase; clear hkp hcase; refine Hid.out ?_)
          rcases HC5.out with ⟨rfl, hbad⟩ | ⟨rfl, hy⟩
          · have HNF : Hid (¬ Fine (fns rs) r.fn) := Lib.hid (by
              have hr := HGI.out.inv.step HGI.out.at_ HI.out HAFT.out (List.mem_of_getElem? HJ.out)
              rcases hbad with hmb | ⟨s2, h2, hne⟩
              · exact not_fine_code hr (List.getElem?_eq_none (by rw [H.out.clen]; exact hmb))
              · exact not_fine_two (HGI.out.inv.sound b s2 h2) hr hne)
            clear hbad
            refine Lib.hid ?_
            go_wp2
            go_ret
            exact ⟨false, rfl, HGI.out.kp.trans HKP.out (fun q hq hx => HGI.out.exle HGC.out q (by have := HGC.out.lt4; omega) hx), .inl ⟨rfl, HNF.out⟩⟩
          · obtain ⟨l2, wl2, vs2, WA2, wk2, wcap2, hgi⟩ := HGI.out.next HGC.out (by rw [HGI.out.inv.len, HINV.out.len]) HJ.out HKP.out hy
            have HG2 := Lib.hid hgi
            clear hy hgi
            refine Lib.hid ?_
            go_wp2
            go_roundw
            case rel => exact ⟨j + 1, l2, wl2, vs2, WA2, wk2, wcap2, by omega, by go_num, HG2⟩
            case measure => simp [intOf]; omega
        · obtain rfl : j = sm := by omega
          clear hlt hj
          go_wp2
          go_ret
          refine ⟨true, rfl, HGI.out.kp, .inr ⟨rfl, l', wl', vs', WA', wk', wcap', HGI.out.ws, HGI.out.inv.close HGI.out.at_ HI.out HAFT.out (fun b hb => HGI.out.done b ?_), HGI.out.cnt_, HGI.out.meas, ?_⟩⟩
          · rw [List.take_of_length_le (by rw [HSM.out]; omega)]; exact hb
          · rcases HGI.out.wait with hw | ⟨qq, hq1, hq2⟩
            · exact .inl hw
            · exact .inr ⟨qq, hq1, by have := HGC.out.lt4; omega⟩
end Go.Proofs.Ytdoabcmfblmklaa

/-
  Programs compared: slices.Equal at kinds and instructions, slices.EqualFunc, package code's Same.
-/
namespace Go.Proofs.Ytdoabcmfblmklaa
set_option linter.unusedVariables false
open Go.ChangeShapes Go.WideShapes Go.ChangeAt Go.RowKit

theorem eq_len {α : Type} [DecidableEq α] {a b : List α} (h : a.length ≠ b.length) : decide (a = b) = false := by
  simp only [decide_eq_false_iff_not]
  intro e
  exact h (by rw [e])
theorem eq_at {α : Type} [DecidableEq α] {a b : List α} {k : Nat} {x y : α} (hx : a[k]? = some x) (hy : b[k]? = some y) (h : x ≠ y) : decide (a = b) = false := by
  simp only [decide_eq_false_iff_not]
  intro e
  rw [e, hy] at hx
  exact h (by simpa using hx.symm)
theorem take_snoc {α : Type} {l : List α} {k : Nat} {x : α} (h : l[k]? = some x) : l.take (k + 1) = l.take k ++ [x] := by
  rw [List.take_add_one, h]; rfl
/-- '==' and '!=' of two instructions. -/
theorem equalIn_ins (a b : Ins) (w : World) : Sem.run Try.prog (Op.equalIn 10000 43 (.agg #[.int .u8 a.op, .int .i64 a.arg, .int .u64 a.imm]) (.agg #[.int .u8 b.op, .int .i64 b.arg, .int .u64 b.imm])) w = .ok (decide (a = b)) w := by
  have hS : Try.prog.underlying 43 = some (.struct (Try.prog.fieldsOf 43)) := by kernel_rfl
  have hp : Try.prog.stoodInHeld 43 = false := by kernel_rfl
  have u1 := Try.underlying41
  have u2 := Try.underlying3
  have u3 := Try.underlying30
  have a1 := Try.isAgg41
  have a2 := Try.isAgg3
  have a3 := Try.isAgg30
  have z1 := Try.sizeOf41
  have z2 := Try.sizeOf3
  have z3 := Try.sizeOf30
  show (Op.equalIn 10000 43 (.agg #[.int .u8 a.op, .int .i64 a.arg, .int .u64 a.imm]) (.agg #[.int .u8 b.op, .int .i64 b.arg, .int .u64 b.imm])).run Try.prog w = _
  rw [show (10000 : Nat) = 9999 + 1 from rfl, run_equalIn_agg w 9999 43 _ _ hS hp]
  simp only [Program.fieldsOf, Try.underlying43]
  go_simp
  obtain ⟨a1, a2, a3⟩ := a
  obtain ⟨b1, b2, b3⟩ := b
  by_cases h1 : a1 = b1 <;> by_cases h2 : a2 = b2 <;> by_cases h3 : a3 = b3 <;> simp [h1, h2, h3]

end Go.Proofs.Ytdoabcmfblmklaa

/-
  The document's Same of two programs.
-/
namespace Go.Proofs.Ytdoabcmfblmklaa
set_option linter.unusedVariables false
open Go.ChangeShapes Go.WideShapes Go.ChangeAt Go.RowKit

theorem blk_second (w : World) (t u : TypeId) (cs ds : Array Value) : Blk ((w.alloc (.cells cs t)).alloc (.cells ds u)) (w.heap.size + 1) u ds := by
  have := Blk.new (w.alloc (.cells cs t)) u ds
  rw [show (w.alloc (.cells cs t)).heap.size = w.heap.size + 1 by simp] at this
  exact this
theorem below_two (w : World) (t u : TypeId) (cs ds : Array Value) : Below w.heap.size w ((w.alloc (.cells cs t)).alloc (.cells ds u)).drew := (((Below.refl _ _).alloc (Nat.le_refl _) _).alloc (by simp) _).drew

end Go.Proofs.Ytdoabcmfblmklaa

/-
  Package kinds: walk.
-/
namespace Go.Proofs.Ytdoabcmfblmklaa
set_option linter.unusedVariables false
open Go.ChangeShapes Go.WideShapes Go.ChangeAt Go.RowKit

/-- a function's answer in memory: which is reached, and the stacks -/
structure FnAt (w : World) (B : Nat) (l : List (Option Stk)) (rv sv : Value) : Prop where
  at_ : ∃ (ra sa m : Nat) (vs : List Value), rv = .slice (some ⟨ra, 0, none⟩) m m ∧ sv = .slice (some ⟨sa, 0, none⟩) m m ∧ l.length = m ∧ m ≤ 256 ∧ Blk w ra 4 (reachC l).toArray ∧ Blk w sa 44 vs.toArray ∧ vs.length = m ∧ B ≤ ra ∧ B ≤ sa ∧
    ∀ (j : Nat) x, l[j]? = some x → ∃ a q k, vs[j]? = some (.slice a q k) ∧ q = (x.getD []).length ∧ w.ownsRow B 47 1 (.slice a q k) q (u8c (x.getD []))
theorem FnAt.below {w w' : World} {B : Nat} {l : List (Option Stk)} {rv sv : Value} (h : FnAt w B l rv sv) (hb : Below w.heap.size w w') : FnAt w' B l rv sv := by
  obtain ⟨ra, sa, m, vs, h1, h2, h3, h4, h5, h6, h7, h8, h9, h10⟩ := h.at_
  refine ⟨ra, sa, m, vs, h1, h2, h3, h4, h5.below hb h5.lt, h6.below hb h6.lt, h7, h8, h9, fun j x hx => ?_⟩
  obtain ⟨a, q, k, e1, e2, e3⟩ := h10 j x hx
  exact ⟨a, q, k, e1, e2, own_kept e3 fun i hi => hb.block i (own_lt e3 hi).2⟩
def WalkPost (w : World) (B g n c : Nat) (A : Option Addr) (rs : List Raw) (r : Raw) (e : Ending) (w' : World) : Prop :=
  ∃ ok, e = .returned (.bool ok) ∧ Kp w w' (fun i => i = g) ∧ ((ok = false ∧ ¬ Fine (fns rs) r.fn) ∨ (ok = true ∧ ∃ l rv sv wv, Sol (fns rs) r.fn l ∧ Wk w' B g A n c rs r rv sv wv ∧ FnAt w' B l rv sv))
theorem Try.info4 : (Try.prog.info? 4).map (fun i => (i.zero, i.size, i.bytes)) = some (some (.bool false), 1, 1) := by kernel_rfl
theorem Try.info44 : (Try.prog.info? 44).map (fun i => (i.zero, i.size, i.bytes)) = some (some (.slice none 0 0), 1, 24) := by kernel_rfl
section
variable {w w' : World} {B g ra sa n c m wk wcap : Nat} {A WA : Option Addr} {rs : List Raw} {r : Raw} {l : List (Option Stk)} {wl : List Nat} {vs : List Value}
theorem WS.init (h : Wk w B g A n c rs r (.slice none 0 0) (.slice none 0 0) (.slice none 0 0)) (hm : r.fn.code.length = m) (hm1 : m ≤ 256) :
    WS ((((w.setCell ⟨g, 6, none⟩ (.slice (some ⟨w.heap.size, 0, none⟩) m m)).setCell ⟨g, 7, none⟩ (.slice (some ⟨w.heap.size + 1, 0, none⟩) m m)).alloc (.cells (madeCells #[.bool false] m) 4)).alloc (.cells (madeCells #[.slice none 0 0] m) 44)) B g w.heap.size (w.heap.size + 1) A n c rs r m (List.replicate m none) [] (List.replicate m (.slice none 0 0)) none 0 0 ∧
    Kp w ((((w.setCell ⟨g, 6, none⟩ (.slice (some ⟨w.heap.size, 0, none⟩) m m)).setCell ⟨g, 7, none⟩ (.slice (some ⟨w.heap.size + 1, 0, none⟩) m m)).alloc (.cells (madeCells #[.bool false] m) 4)).alloc (.cells (madeCells #[.slice none 0 0] m) 44)) (fun i => i = g) := by
  have hle := h.le
  obtain ⟨W2, hW2⟩ : ∃ W2, W2 = (w.setCell ⟨g, 6, none⟩ (.slice (some ⟨w.heap.size, 0, none⟩) m m)).setCell ⟨g, 7, none⟩ (.slice (some ⟨w.heap.size + 1, 0, none⟩) m m) := ⟨_, rfl⟩
  have hs2 : W2.heap.size = w.heap.size := by rw [hW2]; simp [World.setCell]
  have hb2 : Blk W2 g 107 (WkC A n c r (.slice (some ⟨w.heap.size, 0, none⟩) m m) (.slice (some ⟨w.heap.size + 1, 0, none⟩) m m) (.slice none 0 0)) := by rw [hW2]; exact (h.blk.set_ 6 _).set_ 7 _
  have hk2 : Kp w W2 (fun i => i = g) := by rw [hW2]; exact (Kp.set (ex := fun i => i = g) w _ _ rfl).trans (Kp.set (ex := fun i => i = g) _ _ _ rfl) fun _ _ h => h
  rw [← hW2, ← hs2]
  have hr3 : Blk ((W2.alloc (.cells (madeCells #[.bool false] m) 4)).alloc (.cells (madeCells #[.slice none 0 0] m) 44)) W2.heap.size 4 (madeCells #[.bool false] m) := (Blk.new W2 _ _).alloc _
  have hs3 := blk_second W2 4 44 (madeCells #[.bool false] m) (madeCells #[.slice none 0 0] m)
  have hk3 : Kp W2 ((W2.alloc (.cells (madeCells #[.bool false] m) 4)).alloc (.cells (madeCells #[.slice none 0 0] m) 44)) (fun i => i = g) := Kp.of_below (((Below.refl _ _).alloc (Nat.le_refl _) _).alloc (by simp) _) _
  have hk := hk2.trans hk3 fun _ _ h => h
  have hB := hk.below hle (by rintro i rfl; exact h.bg)
  refine ⟨⟨⟨by rw [← hs2] at hb2; exact (hb2.alloc _).alloc _, h.prog.below hB, h.fn.below hB, h.wf, by have := hk.size; omega, h.ok, h.okf, h.bg⟩, by simp, hm, hm1, ?_, ?_, by simp, fun j x hx => ?_, rfl, own_none _ _ _ _, by rw [hs2]; exact hle, by rw [hs2]; omega⟩, hk⟩
  · have he : reachC (List.replicate m none) = List.replicate m (.bool false) := by simp [reachC]
    rw [he, ← made_rep]
    exact hr3
  · rw [← made_rep]
    exact hs3
  · rw [List.getElem?_replicate] at hx
    split at hx
    · simp at hx
      subst hx
      exact ⟨none, 0, 0, by rw [List.getElem?_replicate]; simp; assumption, rfl, own_none _ _ _ _⟩
    · cases hx
/-- the last that waits is taken -/
theorem WS.pop {a k : Nat} (h : WS w B g ra sa A n c rs r m l (wl ++ [a]) vs WA (k + 1) wcap) : WS (w.setCell ⟨g, 8, none⟩ (.slice WA k wcap)) B g ra sa A n c rs r m l wl vs WA k wcap ∧ Kp w (w.setCell ⟨g, 8, none⟩ (.slice WA k wcap)) (fun i => i = g) := by
  have hk : Kp w (w.setCell ⟨g, 8, none⟩ (.slice WA k wcap)) (fun i => i = g) := Kp.set w _ _ rfl
  have hB := hk.below h.wkr.le (by rintro i rfl; exact h.wkr.bg)
  have hrg : ra ≠ g := Blk.ne_ h.reached h.wkr.blk (by decide)
  have hsg : sa ≠ g := Blk.ne_ h.stacks h.wkr.blk (by decide)
  refine ⟨⟨⟨h.wkr.blk.set_ 8 _, h.wkr.prog.below hB, h.wkr.fn.below hB, h.wkr.wf, by have := hk.size; have := h.wkr.le; omega, h.wkr.ok, h.wkr.okf, h.wkr.bg⟩, h.len, h.clen, h.small, hk.blk h.reached hrg, hk.blk h.stacks hsg, h.vlen, fun j x hx => ?_, by have := h.wlen; rw [List.length_append] at this; simpa using this, ?_, h.bra, h.bsa⟩, hk⟩
  · obtain ⟨av, q, k', h1, h2, h3⟩ := h.vat j x hx
    exact ⟨av, q, k', h1, h2, hk.own h3 fun i hi e => own_blk_ne h3 h.wkr.blk (by decide) (e ▸ hi)⟩
  · have h4 := hk.own h.wait fun i hi e => own_blk_ne h.wait h.wkr.blk (by decide) (e ▸ hi)
    have hwl : wl.length = k := by have := h.wlen; rw [List.length_append] at this; simpa using this
    rcases h4.2 with ⟨_, h0⟩ | ⟨g', cap, cur, hv, hg', hb', hn', hm', hs', ht'⟩
    · omega
    · injection hv with hv1 hv2 hv3
      subst hv1 hv3
      refine ⟨by simp [intc, hwl], .inr ⟨g', _, cur, rfl, hg', hb', by omega, hm', hs', ?_⟩⟩
      have h5 := congrArg (List.take k) ht'
      rw [List.take_take] at h5
      rw [show k * 1 = min k ((k + 1) * 1) by omega, h5]
      unfold intc
      rw [List.map_append, List.take_append_of_le_length (by simp [hwl])]
      rw [List.take_of_length_le (by simp [hwl])]
theorem WS.fnAt (h : WS w B g ra sa A n c rs r m l wl vs WA wk wcap) : FnAt w B l (.slice (some ⟨ra, 0, none⟩) m m) (.slice (some ⟨sa, 0, none⟩) m m) :=
  ⟨ra, sa, m, vs, rfl, rfl, h.len, h.small, h.reached, h.stacks, h.vlen, h.bra, h.bsa, h.vat⟩
end
set_option maxRecDepth 100000 in
set_option maxHeartbeats 3200000 in
theorem walk_any (B g n c m : Nat) (A : Option Addr) (rs : List Raw) (r : Raw) (w : World) (h : Wk w B g A n c rs r (.slice none 0 0) (.slice none 0 0) (.slice none 0 0)) (hm : r.fn.code.length = m) (hm1 : m ≤ 256) (href : ∀ i ∈ r.fn.code, insRef (fns rs) r.fn i = true) :
    Calls Try.prog 35 #[.pointer (some ⟨g, 0, none⟩)] w (WalkPost w B g n c A rs r) := by
  obtain ⟨d0, d1, d2, d3, d4, d5, d6, d7, d8⟩ := h.cells
  rw [hm] at d5
  have hg := h.blk.lt
  have f6 := h.blk.frozen 6
  have f7 := h.blk.frozen 7
  have H := Lib.hid h
  have HM := Lib.hid hm
  have hmk1 : ∀ W : World, (Instr.makeSlice 103 (.int .i64 m) (.int .i64 m)).run Try.prog W = .ok (.slice (some ⟨W.heap.size, 0, none⟩) m m) (W.alloc (.cells (madeCells #[.bool false] m) 4)) := fun W => run_make_row' _ _ _ 1 Try.underlying103 Try.info4 rfl .i64 .i64 m (by omega) (by omega) W
  have hmk2 : ∀ W : World, (Instr.makeSlice 104 (.int .i64 m) (.int .i64 m)).run Try.prog W = .ok (.slice (some ⟨W.heap.size, 0, none⟩) m m) (W.alloc (.cells (madeCells #[.slice none 0 0] m) 44)) := fun W => run_make_row' _ _ _ 24 Try.underlying104 Try.info44 rfl .i64 .i64 m (by omega) (by omega) W
  clear h hm
  go_enter Try.func35, Try.ntmps35
  go_upto_region 3 with fail
  have HI0 := Lib.hid (WS.init H.out HM.out hm1)
  obtain ⟨W3, hW3⟩ : ∃ W3, W3 = ((((w.setCell ⟨g, 6, none⟩ (.slice (some ⟨w.heap.size, 0, none⟩) m m)).setCell ⟨g, 7, none⟩ (.slice (some ⟨w.heap.size + 1, 0, none⟩) m m)).alloc (.cells (madeCells #[.bool false] m) 4)).alloc (.cells (madeCells #[.slice none 0 0] m) 44)) := ⟨_, rfl⟩
  rw [← hW3] at HI0 ⊢
  have HAR := Lib.hid (arrive_any B g w.heap.size (w.heap.size + 1) n c m 0 0 0 0 0 0 A none none rs r (List.replicate m none) [] (List.replicate m (.slice none 0 0)) [] W3 HI0.out.1 (own_none _ _ _ _) (by omega) (fun j s2 h2 => by rw [List.getElem?_replicate] at h2; split at h2 <;> simp at h2) (by omega) (by omega))
  clear hW3 hmk1 hmk2 d0 d1 d2 d3 d4 d5 d6 d7 d8 f6 f7
  go_wp2_with (go_at_call 62; refine HAR.out.mono ?_; rintro e w5 ⟨ok, rfl, hkp, hcase⟩; have HKP := Lib.hid hkp; have HC5 := Lib.hid hcase; clear hkp hcase; refine Hid.out ?_)
  have HK5 : Hid (Kp w w5 (fun i => i = g)) := Lib.hid (HI0.out.2.trans HKP.out (by
    rintro i hi (rfl | rfl | rfl | hx)
    · rfl
    · omega
    · omega
    · cases hx))
  have HST : Hid ((ok = false ∧ ¬ Fine (fns rs) r.fn) ∨ (ok = true ∧ ∃ l wl vs WA wk wcap, WS w5 B g w.heap.size (w.heap.size + 1) A n c rs r m l wl vs WA wk wcap ∧ Inv (fns rs) r.fn l wl ∧ 2 * cnt l + wl.length ≤ 2000 ∧ (∀ q, (Value.slice WA wk wcap).ownBlock = some q → w.heap.size ≤ q))) := Lib.hid (by
    rcases HC5.out with ⟨rfl, hb⟩ | ⟨rfl, l', wl', vs', WA', wk', wcap', hws, hwt, hc⟩
    · refine .inl ⟨rfl, ?_⟩
      rcases hb with hb | ⟨s2, h2, _⟩
      · exact not_fine_code .base (List.getElem?_eq_none (by rw [HM.out]; exact hb))
      · rw [List.getElem?_replicate] at h2; split at h2 <;> simp at h2
    · rcases hc with ⟨h2, _⟩ | ⟨h2, rfl, rfl⟩
      · rw [List.getElem?_replicate] at h2; split at h2 <;> simp at h2
      · have h0 : 0 < m := by
          have := (List.getElem?_eq_some_iff.1 h2).1
          simpa using this
        have hinv := Inv.start (fs := fns rs) (f := r.fn) (by rw [HM.out]; exact h0)
        rw [HM.out] at hinv
        refine .inr ⟨rfl, _, _, vs', WA', wk', wcap', hws, hinv, ?_, fun q hq => ?_⟩
        · have h3 := cnt_le ((List.replicate m none).set 0 (some ([] : Stk)))
          rw [List.length_set, List.length_replicate] at h3
          simp
          omega
        · rcases hwt with ht | ⟨j, hj, hz⟩
          · rw [ht] at hq; cases hq
          · rw [hj] at hq; injection hq with hq; subst hq; have := HI0.out.2.size; omega)
  clear HC5 HKP HAR HI0
  refine Lib.hid ?_
  go_wp2
  go_loopg [3] 2000 (fun gk x wr => ∃ ok, x = .bool ok ∧ Hid (Kp w wr (fun i => i = g)) ∧ Hid ((ok = false ∧ ¬ Fine (fns rs) r.fn) ∨ (ok = true ∧ ∃ l wl vs WA wk wcap, WS wr B g w.heap.size (w.heap.size + 1) A n c rs r m l wl vs WA wk wcap ∧ Inv (fns rs) r.fn l wl ∧ 2 * cnt l + wl.length ≤ gk ∧ gk ≤ 2000 ∧ (∀ q, (Value.slice WA wk wcap).ownBlock = some q → w.heap.size ≤ q))))
  case atStart => exact ⟨ok, rfl, HK5, Lib.hid (HST.out.imp (fun h => h) fun ⟨h1, l, wl, vs, WA, wk, wcap, h2, h3, h4, h5⟩ => ⟨h1, l, wl, vs, WA, wk, wcap, h2, h3, h4, Nat.le_refl _, h5⟩)⟩
  case round =>
    clear HST HK5
    obtain ⟨ok, rfl, HK, HS⟩ := hrel
    have hzr := HK.out.size
    rcases HS.out with ⟨rfl, hnf⟩ | ⟨rfl, l, wl, vs, WA, wk, wcap, hws, hinv, hmeas, hgk, hwv⟩
    · have HNF := Lib.hid hnf
      clear hnf
      go_wp2
      go_ret
      exact ⟨false, rfl, HK.out, .inl ⟨rfl, HNF.out⟩⟩
    · have e8 : wr.cell? ⟨g, 8, none⟩ = some (.slice WA wk wcap) := hws.wkr.cells.2.2.2.2.2.2.2.2
      have f8 := hws.wkr.blk.frozen 8
      have hgr := hws.wkr.blk.lt
      have HWS := Lib.hid hws
      have HINV := Lib.hid hinv
      have HWV := Lib.hid hwv
      rcases List.eq_nil_or_concat wl with hwl | ⟨wl0, a, hwl⟩
      · have hwk0 : wk = 0 := by have := hws.wlen; rw [hwl] at this; simpa using this.symm
        have HNIL := Lib.hid hwl
        clear hwl hws hinv hwv
        subst hwk0
        go_wp2
        go_ret
        exact ⟨true, rfl, HK.out, .inr ⟨rfl, l, _, _, _, (by have h := HINV.out; rw [HNIL.out] at h; exact h.sol), HWS.out.wkr, HWS.out.fnAt⟩⟩
      · rw [List.concat_eq_append] at hwl
        subst hwl
        obtain ⟨k, hk⟩ : ∃ k, wk = k + 1 := ⟨wl0.length, by have := hws.wlen; rw [List.length_append] at this; simpa using this.symm⟩
        subst hk
        have hlk : wl0.length = k := by have := hws.wlen; rw [List.length_append] at this; simpa using this
        obtain ⟨bl, off, x, hWA, hbl, HX, y0⟩ := NewI.at_ (b := 0) (Reads.of_own hws.wait) (j := k) (by omega)
        have hxa : x = a := by have h := HX.out; rw [List.getElem?_append_right (by omega), hlk] at h; simpa using h.symm
        subst hxa
        have hkc : k + 1 ≤ wcap := own_cap hws.wait
        obtain ⟨hp, hkp⟩ := hws.pop
        have HP := Lib.hid hp
        have HKP := Lib.hid hkp
        have hk1 : ((k : Int) + 1) - 1 = (k : Int) := by omega
        have h0k : (0 : Int) ≤ (k : Int) := by omega
        have hkk : (k : Int) < (k : Int) + 1 := by omega
        have hkn : k < k + 1 := by omega
        have hkw : k ≤ wcap := by omega
        have HMS := Lib.hid hmeas
        rw [List.length_append] at hmeas
        have hm2 : 2 * cnt l + wl0.length + 1 ≤ gk := by simp at hmeas; omega
        have hm3 : 2 * cnt l + wl0.length + 1 ≤ 2000 := by omega
        have HGO := Lib.hid (goOn_any B g w.heap.size (w.heap.size + 1) n c m k wcap x A WA rs r l wl0 vs _ hp (hinv.more (fun y hy => by simp at hy ⊢; exact hy.symm) (fun y hy => hinv.opened y (by simp at hy ⊢; exact hy.symm))) href (by omega))
        have hkb : k ≤ 2000 := by omega
        have HLK := Lib.hid hlk
        subst hWA
        clear hws hinv hwv hp hkp hlk hmeas
        go_wp2_with (go_at_call 63; refine HGO.out.mono ?_; rintro e w6 ⟨ok, rfl, hkp6, hcase⟩; have HKP6 := Lib.hid hkp6; have HC6 := Lib.hid hcase; clear hkp6 hcase; refine Hid.out ?_)
        have HK6 : Hid (Kp w w6 (fun i => i = g)) := Lib.hid ((HK.out.trans HKP.out fun _ _ h => h).trans HKP6.out (by
          rintro i hi (h | h | h | hx)
          · exact h
          · omega
          · omega
          · have := HWV.out i hx; omega))
        have HR6 : Hid ((ok = false ∧ ¬ Fine (fns rs) r.fn) ∨ (ok = true ∧ ∃ l wl vs WA wk wcap, WS w6 B g w.heap.size (w.heap.size + 1) A n c rs r m l wl vs WA wk wcap ∧ Inv (fns rs) r.fn l wl ∧ 2 * cnt l + wl.length ≤ gk - 1 ∧ gk - 1 ≤ 2000 ∧ (∀ q, (Value.slice WA wk wcap).ownBlock = some q → w.heap.size ≤ q))) := Lib.hid (by
          rcases HC6.out with hc | ⟨rfl, l', wl', vs', WA', wk', wcap', h1, h2, h3, h4, h5⟩
          · exact .inl hc
          · refine .inr ⟨rfl, l', wl', vs', WA', wk', wcap', h1, h2, by omega, by omega, fun q hq => ?_⟩
            rcases h5 with h5 | ⟨q', hq', hz⟩
            · rw [h5] at hq; exact HWV.out q hq
            · rw [hq'] at hq; injection hq with hq; subst hq; have := HKP.out.size; omega)
        clear HC6 HKP6
        refine Lib.hid ?_
        go_wp2
        go_roundg (gk - 1)
        case measure => omega
        case rel => exact ⟨ok, rfl, HK6, HR6⟩
end Go.Proofs.Ytdoabcmfblmklaa

/-
  Package kinds: walkAll: the answers of all functions in memory.
-/
namespace Go.Proofs.Ytdoabcmfblmklaa
set_option linter.unusedVariables false
open Go.ChangeShapes Go.WideShapes Go.ChangeAt Go.RowKit

theorem Try.info104 : (Try.prog.info? 104).map (fun i => (i.zero, i.size, i.bytes)) = some (some (.slice none 0 0), 1, 24) := by kernel_rfl
theorem Try.info103 : (Try.prog.info? 103).map (fun i => (i.zero, i.size, i.bytes)) = some (some (.slice none 0 0), 1, 24) := by kernel_rfl
theorem step_bools {w : World} {ops : Array Oper} {o : Oper} {a : Act} {K : Act → World → Prop} {Q : Exit → Act → World → Prop} {E : Prop} (hgd : o.guard = none) (s x : Operand)
    (ho : o.op = .call { callee := .builtin .append, args := #[s, x], argTypes := #[99, 99] }) (base : Nat)
    (v : Value) (n : Nat) (xs : List Value) (hs : a.eval s = v) (hown : w.ownsRow base 103 1 v n xs)
    (B : Nat) (A : Option Addr) (m c : Nat) (news : List Value) (hx : a.eval x = .slice A m c) (hr : Reads w B 1 A m news) (h1 : ∀ u ∈ news, u.oneCell' = true)
    (hbytes : (n + m) * 24 ≤ 140737488355328) (hbase : base ≤ w.heap.size)
    (h : ∀ v' w', w'.ownsRow base 103 1 v' (n + m) (xs ++ news) → w.grownBy w' v.ownBlock → (v'.ownBlock = v.ownBlock ∨ v'.ownBlock = some w.heap.size) → K (a.put o.dst v') w') :
    if Region.wanted o (yielded ops a.tmps) = true then Oper.wp Try.prog o a w K Q else E := by
  obtain ⟨i0, hi, hz0, hz1, hz2⟩ := info_parts Try.info103
  exact step_append_any w hgd s x _ ho base 103 i0 (.slice none 0 0) 1 24 Try.underlying99 hi hz0 hz1 hz2 rfl (by decide) v n xs hs hown B A m c news hx hr h1 (by unfold maxLen; omega) hbytes hbase h
theorem step_stks {w : World} {ops : Array Oper} {o : Oper} {a : Act} {K : Act → World → Prop} {Q : Exit → Act → World → Prop} {E : Prop} (hgd : o.guard = none) (s x : Operand)
    (ho : o.op = .call { callee := .builtin .append, args := #[s, x], argTypes := #[100, 100] }) (base : Nat)
    (v : Value) (n : Nat) (xs : List Value) (hs : a.eval s = v) (hown : w.ownsRow base 104 1 v n xs)
    (B : Nat) (A : Option Addr) (m c : Nat) (news : List Value) (hx : a.eval x = .slice A m c) (hr : Reads w B 1 A m news) (h1 : ∀ u ∈ news, u.oneCell' = true)
    (hbytes : (n + m) * 24 ≤ 140737488355328) (hbase : base ≤ w.heap.size)
    (h : ∀ v' w', w'.ownsRow base 104 1 v' (n + m) (xs ++ news) → w.grownBy w' v.ownBlock → (v'.ownBlock = v.ownBlock ∨ v'.ownBlock = some w.heap.size) → K (a.put o.dst v') w') :
    if Region.wanted o (yielded ops a.tmps) = true then Oper.wp Try.prog o a w K Q else E := by
  obtain ⟨i0, hi, hz0, hz1, hz2⟩ := info_parts Try.info104
  exact step_append_any w hgd s x _ ho base 104 i0 (.slice none 0 0) 1 24 Try.underlying100 hi hz0 hz1 hz2 rfl (by decide) v n xs hs hown B A m c news hx hr h1 (by unfold maxLen; omega) hbytes hbase h

theorem FnAt.kept {w w' : World} {B : Nat} {l : List (Option Stk)} {rv sv : Value} {ex : Nat → Prop} (h : FnAt w B l rv sv) (hk : Kp w w' ex) (hb : ∀ g cs, Blk w g 4 cs → ¬ ex g) (hs : ∀ g cs, Blk w g 44 cs → ¬ ex g)
    (ho : ∀ (v : Value) (q : Nat) (xs : List Value), w.ownsRow B 47 1 v q xs → ∀ i, v.ownBlock = some i → ¬ ex i) : FnAt w' B l rv sv := by
  obtain ⟨ra, sa, m, vs, h1, h2, h3, h4, h5, h6, h7, h8, h9, h10⟩ := h.at_
  refine ⟨ra, sa, m, vs, h1, h2, h3, h4, hk.blk h5 (hb _ _ h5), hk.blk h6 (hs _ _ h6), h7, h8, h9, fun j x hx => ?_⟩
  obtain ⟨a, q, k, e1, e2, e3⟩ := h10 j x hx
  exact ⟨a, q, k, e1, e2, hk.own e3 (ho _ _ _ e3)⟩
/-- the two rows of rows -/
structure TJ (w : World) (tb kr ks : Nat) (rvs svs : List Value) (RA : Option Addr) (rc : Nat) (SA : Option Addr) (sc : Nat) (W : World) : Prop where
  blk : Blk W tb 102 #[.slice RA kr rc, .slice SA ks sc]
  rr : W.ownsRow w.heap.size 103 1 (.slice RA kr rc) kr rvs
  ss : W.ownsRow w.heap.size 104 1 (.slice SA ks sc) ks svs
  below : Below w.heap.size w W
  tb_ : w.heap.size ≤ tb
section
variable {w W w8 W' : World} {tb kr ks rc sc : Nat} {rvs svs : List Value} {RA SA : Option Addr} {v8 rv sv : Value}
theorem TJ.on (h : TJ w tb kr ks rvs svs RA rc SA sc W) (hb : Below W.heap.size W W') : TJ w tb kr ks rvs svs RA rc SA sc W' :=
  ⟨h.blk.below hb h.blk.lt, own_kept h.rr (fun i hi => hb.block i (own_lt h.rr hi).2), own_kept h.ss (fun i hi => hb.block i (own_lt h.ss hi).2), h.below.trans (hb.mono h.below.size), h.tb_⟩
def ExT (tb : Nat) (v : Value) (i : Nat) : Prop := i = tb ∨ v.ownBlock = some i
theorem own_ty {base size n g : Nat} {e t : TypeId} {v : Value} {xs : List Value} {cs : Array Value} (h : W.ownsRow base e size v n xs) (hb : Blk W g t cs) (hne : e ≠ t) : v.ownBlock ≠ some g := own_blk_ne h hb hne
theorem own_ty2 {b1 b2 s1 s2 n1 n2 : Nat} {e1 e2 : TypeId} {v1 v2 : Value} {x1 x2 : List Value} (h1 : W.ownsRow b1 e1 s1 v1 n1 x1) (h2 : W.ownsRow b2 e2 s2 v2 n2 x2) (hne : e2 ≠ e1) : ∀ i, v2.ownBlock = some i → v1.ownBlock ≠ some i := by
  intro i hi e
  rcases h1.2 with ⟨rfl, _⟩ | ⟨g, cap, cur, rfl, _, hb, _⟩
  · cases e
  · obtain rfl : g = i := by simpa [Value.ownBlock] using e
    exact own_blk_ne h2 (g := g) (t := e1) (cs := cur) hb hne hi
theorem TJ.pushR (h : TJ w tb kr ks rvs svs RA rc SA sc W) (o : Obj) (hown : w8.ownsRow w.heap.size 103 1 v8 (kr + 1) (rvs ++ [rv])) (hg : (W.alloc o).grownBy w8 (Value.slice RA kr rc).ownBlock) :
    ∃ RA8 c8, v8 = .slice RA8 (kr + 1) c8 ∧ w8.cell? ⟨tb, 0, none⟩ = some (.slice RA kr rc) ∧ w8.cell? ⟨tb, 1, none⟩ = some (.slice SA ks sc) ∧ w8.frozen? ⟨tb, 0, none⟩ = false ∧ TJ w tb (kr + 1) ks (rvs ++ [rv]) svs RA8 c8 SA sc (w8.setCell ⟨tb, 0, none⟩ v8) ∧ Kp W (w8.setCell ⟨tb, 0, none⟩ v8) (ExT tb (.slice RA kr rc)) := by
  obtain ⟨RA8, c8, rfl⟩ := own_slice hown
  have hk8 : Kp W w8 (fun i => (Value.slice RA kr rc).ownBlock = some i) := (Kp.of_below ((Below.refl _ _).alloc (Nat.le_refl _) o) _).trans (Kp.of_grown (ex := fun i => (Value.slice RA kr rc).ownBlock = some i) hg fun i hi => hi) fun _ _ h => h
  have hb8 : Blk w8 tb 102 #[.slice RA kr rc, .slice SA ks sc] := hk8.blk h.blk (own_ty h.rr h.blk (by decide))
  have hk9 : Kp W (w8.setCell ⟨tb, 0, none⟩ (.slice RA8 (kr + 1) c8)) (ExT tb (.slice RA kr rc)) := (hk8.wider fun i _ hx => .inr hx).trans (Kp.set (ex := ExT tb (.slice RA kr rc)) w8 _ _ (.inl rfl)) fun _ _ h => h
  have hs8 : w8.ownsRow w.heap.size 104 1 (.slice SA ks sc) ks svs := hk8.own h.ss (own_ty2 h.rr h.ss (by decide))
  refine ⟨RA8, c8, rfl, hb8.cell 0, hb8.cell 1, hb8.frozen 0, ⟨hb8.set_ 0 _, own_far hown hb8 (by decide) 0 _, own_far hs8 hb8 (by decide) 0 _, ?_, h.tb_⟩, hk9⟩
  exact h.below.trans (hk9.below h.below.size (by
    rintro i (rfl | hx)
    · exact h.tb_
    · exact (own_lt h.rr hx).1))
theorem TJ.pushS (h : TJ w tb kr ks rvs svs RA rc SA sc W) (o : Obj) (hown : w8.ownsRow w.heap.size 104 1 v8 (ks + 1) (svs ++ [sv])) (hg : (W.alloc o).grownBy w8 (Value.slice SA ks sc).ownBlock) :
    ∃ SA8 c8, v8 = .slice SA8 (ks + 1) c8 ∧ w8.cell? ⟨tb, 0, none⟩ = some (.slice RA kr rc) ∧ w8.cell? ⟨tb, 1, none⟩ = some (.slice SA ks sc) ∧ w8.frozen? ⟨tb, 1, none⟩ = false ∧ TJ w tb kr (ks + 1) rvs (svs ++ [sv]) RA rc SA8 c8 (w8.setCell ⟨tb, 1, none⟩ v8) ∧ Kp W (w8.setCell ⟨tb, 1, none⟩ v8) (ExT tb (.slice SA ks sc)) := by
  obtain ⟨SA8, c8, rfl⟩ := own_slice hown
  have hk8 : Kp W w8 (fun i => (Value.slice SA ks sc).ownBlock = some i) := (Kp.of_below ((Below.refl _ _).alloc (Nat.le_refl _) o) _).trans (Kp.of_grown (ex := fun i => (Value.slice SA ks sc).ownBlock = some i) hg fun i hi => hi) fun _ _ h => h
  have hb8 : Blk w8 tb 102 #[.slice RA kr rc, .slice SA ks sc] := hk8.blk h.blk (own_ty h.ss h.blk (by decide))
  have hk9 : Kp W (w8.setCell ⟨tb, 1, none⟩ (.slice SA8 (ks + 1) c8)) (ExT tb (.slice SA ks sc)) := (hk8.wider fun i _ hx => .inr hx).trans (Kp.set (ex := ExT tb (.slice SA ks sc)) w8 _ _ (.inl rfl)) fun _ _ h => h
  have hr8 : w8.ownsRow w.heap.size 103 1 (.slice RA kr rc) kr rvs := hk8.own h.rr (own_ty2 h.ss h.rr (by decide))
  refine ⟨SA8, c8, rfl, hb8.cell 0, hb8.cell 1, hb8.frozen 1, ⟨hb8.set_ 1 _, own_far hr8 hb8 (by decide) 1 _, own_far hown hb8 (by decide) 1 _, ?_, h.tb_⟩, hk9⟩
  exact h.below.trans (hk9.below h.below.size (by
    rintro i (rfl | hx)
    · exact h.tb_
    · exact (own_lt h.ss hx).1))
/-- what the two rows' growing leaves of the answers -/
theorem FnAt.past {B : Nat} {l : List (Option Stk)} {v : Value} {e : TypeId} {size n : Nat} {xs : List Value} {cs : Array Value} (h : FnAt W B l rv sv) (hk : Kp W W' (ExT tb v)) (hb : Blk W tb 102 cs) (ho : W.ownsRow w.heap.size e size v n xs) (he : e = 103 ∨ e = 104) : FnAt W' B l rv sv := by
  refine h.kept hk (fun g cs' hg => ?_) (fun g cs' hg => ?_) (fun v' q xs' hv i hi => ?_)
  · rintro (rfl | hx)
    · exact Blk.ne_ hg hb (by decide) rfl
    · exact own_ty ho hg (by rcases he with rfl | rfl <;> decide) hx
  · rintro (rfl | hx)
    · exact Blk.ne_ hg hb (by decide) rfl
    · exact own_ty ho hg (by rcases he with rfl | rfl <;> decide) hx
  · rintro (rfl | hx)
    · exact own_ty hv hb (by decide) hi
    · exact own_ty2 ho hv (by rcases he with rfl | rfl <;> decide) i hi hx
end
/-- all functions' answers, so far -/
structure TI (w : World) (B tb : Nat) (rs : List Raw) (k : Nat) (ls : List (List (Option Stk))) (rvs svs : List Value) (RA : Option Addr) (rc : Nat) (SA : Option Addr) (sc : Nat) (W : World) : Prop where
  tj : TJ w tb k k rvs svs RA rc SA sc W
  len : ls.length = k
  lr : rvs.length = k
  lsv : svs.length = k
  each : ∀ (j : Nat) l, ls[j]? = some l → ∃ rv sv, rvs[j]? = some rv ∧ svs[j]? = some sv ∧ FnAt W B l rv sv
  sols : ∀ (j : Nat) f, j < k → (fns rs)[j]? = some f → ∃ l, ls[j]? = some l ∧ Sol (fns rs) f l
end Go.Proofs.Ytdoabcmfblmklaa

/-
  Package kinds: walkAll, the walk.
-/
namespace Go.Proofs.Ytdoabcmfblmklaa
set_option linter.unusedVariables false
open Go.ChangeShapes Go.WideShapes Go.ChangeAt Go.RowKit

def AllPost (w : World) (B n : Nat) (rs : List Raw) (e : Ending) (w' : World) : Prop := Below w.heap.size w w' ∧
  ((e = .returned (.tuple #[.pointer none, .bool false]) ∧ ∃ f ∈ fns rs, ¬ Fine (fns rs) f) ∨
    ∃ tb ls rvs svs RA rc SA sc, e = .returned (.tuple #[.pointer (some ⟨tb, 0, none⟩), .bool true]) ∧ TI w B tb rs n ls rvs svs RA rc SA sc w')
section
variable {w wr W6 W9 W10 : World} {B tb n k rc sc rc2 sc2 : Nat} {rs : List Raw} {r : Raw} {ls : List (List (Option Stk))} {l : List (Option Stk)} {rvs svs : List Value} {rv sv : Value} {RA SA RA2 SA2 : Option Addr}
theorem TI.zero (h : Blk wr tb 102 #[.slice none 0 0, .slice none 0 0]) (hb : Below w.heap.size w wr) (ht : w.heap.size ≤ tb) : TI w B tb rs 0 [] [] [] none 0 none 0 wr :=
  ⟨⟨h, own_none _ _ _ _, own_none _ _ _ _, hb, ht⟩, rfl, rfl, rfl, (fun j l h => by simp at h), (fun j f h => by omega)⟩
theorem TI.on {W' : World} (h : TI w B tb rs k ls rvs svs RA rc SA sc wr) (hb : Below wr.heap.size wr W') : TI w B tb rs k ls rvs svs RA rc SA sc W' :=
  ⟨h.tj.on hb, h.len, h.lr, h.lsv, fun j l hl => by obtain ⟨rv, sv, h1, h2, h3⟩ := h.each j l hl; exact ⟨rv, sv, h1, h2, h3.below hb⟩, h.sols⟩
theorem TI.next (h : TI w B tb rs k ls rvs svs RA rc SA sc W6) (hr : rs[k]? = some r) (hs : Sol (fns rs) r.fn l) (hf : FnAt W6 B l rv sv) (h9 : TJ w tb (k + 1) k (rvs ++ [rv]) svs RA2 rc2 SA sc W9) (k9 : Kp W6 W9 (ExT tb (.slice RA k rc)))
    (h10 : TJ w tb (k + 1) (k + 1) (rvs ++ [rv]) (svs ++ [sv]) RA2 rc2 SA2 sc2 W10) (k10 : Kp W9 W10 (ExT tb (.slice SA k sc))) : TI w B tb rs (k + 1) (ls ++ [l]) (rvs ++ [rv]) (svs ++ [sv]) RA2 rc2 SA2 sc2 W10 := by
  have keep : ∀ {l rv sv}, FnAt W6 B l rv sv → FnAt W10 B l rv sv := fun hh => (hh.past k9 h.tj.blk h.tj.rr (.inl rfl)).past k10 h9.blk h9.ss (.inr rfl)
  refine ⟨h10, by simp [h.len], by simp [h.lr], by simp [h.lsv], fun j l' hl => ?_, fun j f hj hf' => ?_⟩
  · rcases Nat.lt_or_ge j k with hjk | hjk
    · rw [List.getElem?_append_left (by rw [h.len]; exact hjk)] at hl
      obtain ⟨rv', sv', h1, h2, h3⟩ := h.each j l' hl
      exact ⟨rv', sv', by rw [List.getElem?_append_left (by rw [h.lr]; exact hjk)]; exact h1, by rw [List.getElem?_append_left (by rw [h.lsv]; exact hjk)]; exact h2, keep h3⟩
    · rw [List.getElem?_append_right (by rw [h.len]; exact hjk), h.len] at hl
      obtain ⟨hlt, hle⟩ := List.getElem?_eq_some_iff.1 hl
      have hj0 : j = k := by simp at hlt; omega
      subst hj0
      simp at hle
      subst hle
      exact ⟨rv, sv, by rw [List.getElem?_append_right (by rw [h.lr]; exact Nat.le_refl _), h.lr]; simp, by rw [List.getElem?_append_right (by rw [h.lsv]; exact Nat.le_refl _), h.lsv]; simp, keep hf⟩
  · rcases Nat.lt_or_ge j k with hjk | hjk
    · obtain ⟨l', h1, h2⟩ := h.sols j f hjk hf'
      exact ⟨l', by rw [List.getElem?_append_left (by rw [h.len]; exact hjk)]; exact h1, h2⟩
    · obtain rfl : j = k := by omega
      have hfr : f = r.fn := by
        unfold fns at hf'; rw [List.getElem?_map, hr] at hf'; simpa using hf'.symm
      subst hfr
      exact ⟨l, by rw [List.getElem?_append_right (by rw [h.len]; exact Nat.le_refl _), h.len]; simp, hs⟩
end

set_option maxRecDepth 100000 in
set_option maxHeartbeats 6400000 in
theorem walkAll_any (B : Nat) (A : Option Addr) (n c : Nat) (rs : List Raw) (w : World) (h : RdP w B A n rs) (hB : B ≤ w.heap.size) (hok : okP (fns rs) = true) (hcl : ∀ r ∈ rs, r.fn.code.length ≤ 256) (href : ∀ r ∈ rs, ∀ i ∈ r.fn.code, insRef (fns rs) r.fn i = true) :
    Calls Try.prog 21 #[.slice A n c] w (AllPost w B n rs) := by
  have H := Lib.hid h
  have HOK := Lib.hid hok
  have HCL := Lib.hid hcl
  have HREF := Lib.hid href
  have hn : n ≤ 255 := by have := (okP_iff.1 hok).2.1; rw [length_fns, h.len] at this; exact this
  have HB0 : Hid (Below w.heap.size w (w.alloc (.cells #[.slice none 0 0, .slice none 0 0] 102))) := Lib.hid ((Below.refl _ _).alloc (Nat.le_refl _) _)
  have HT0 : Hid (TI w B w.heap.size rs 0 [] [] [] none 0 none 0 (w.alloc (.cells #[.slice none 0 0, .slice none 0 0] 102))) := Lib.hid (TI.zero (Blk.new w _ _) HB0.out (Nat.le_refl _))
  clear h hok hcl href
  go_enter Try.func21, Try.ntmps21
  go_wp2
  go_loopw [12] (fun i wr => ∃ (k : Nat) (ls : List (List (Option Stk))) (rvs svs : List Value) (RA : Option Addr) (rc : Nat) (SA : Option Addr) (sc : Nat), k ≤ n ∧ i = .int .i64 k ∧ Hid (TI w B w.heap.size rs k ls rvs svs RA rc SA sc wr)) (fun i _ => n - (intOf i).toNat)
  case atStart => exact ⟨0, [], [], [], none, 0, none, 0, Nat.zero_le _, rfl, HT0⟩
  case round =>
    clear HT0
    obtain ⟨k, ls, rvs, svs, RA, rc, SA, sc, hk, rfl, HT⟩ := hrel
    have hz := HT.out.tj.below.size
    have htb := HT.out.tj.blk.lt
    by_cases hlt : k < n
    · obtain ⟨b, off, r, hA, hb, HX, HF, HW, x0, x1, x2, x3, x4⟩ := (H.out.below (HT.out.tj.below.mono hB)).fn hlt
      have hbr : b < wr.heap.size := by omega
      have hmem : r ∈ rs := List.mem_of_getElem? HX.out
      have hokf : okF r.fn = true := (okP_iff.1 HOK.out).2.2 r.fn (List.mem_map.2 ⟨r, hmem, rfl⟩)
      have HB2 : Hid (Below wr.heap.size wr ((wr.alloc (.cells #[.int .i64 r.fn.params, .slice r.lo r.fn.locals.length r.lc, .bool r.fn.result, .int .i64 r.fn.keep, .slice r.co r.fn.code.length r.cc] 46)).alloc (.cells #[.slice A n c, .int .i64 r.fn.params, .slice r.lo r.fn.locals.length r.lc, .bool r.fn.result, .int .i64 r.fn.keep, .slice r.co r.fn.code.length r.cc, .slice none 0 0, .slice none 0 0, .slice none 0 0] 107))) := Lib.hid (below_2 _ _ _ _ _)
      have hle2 : B ≤ wr.heap.size := by omega
      have hwk : Wk ((wr.alloc (.cells #[.int .i64 r.fn.params, .slice r.lo r.fn.locals.length r.lc, .bool r.fn.result, .int .i64 r.fn.keep, .slice r.co r.fn.code.length r.cc] 46)).alloc (.cells #[.slice A n c, .int .i64 r.fn.params, .slice r.lo r.fn.locals.length r.lc, .bool r.fn.result, .int .i64 r.fn.keep, .slice r.co r.fn.code.length r.cc, .slice none 0 0, .slice none 0 0, .slice none 0 0] 107)) B (wr.heap.size + 1) A n c rs r (.slice none 0 0) (.slice none 0 0) (.slice none 0 0) :=
        ⟨blk_second _ _ _ _ _, (H.out.below (HT.out.tj.below.mono hB)).below (HB2.out.mono hle2), HF.out.below (HB2.out.mono hle2), HW.out, by simp; omega, HOK.out, hokf, by omega⟩
      have HC := Lib.hid (walk_any B (wr.heap.size + 1) n c r.fn.code.length A rs r _ hwk rfl (HCL.out r hmem) (HREF.out r hmem))
      rw [hA] at HC hwk HB2
      subst hA
      clear hwk hmem hokf
      go_wp2_with (go_at_call 35; refine HC.out.mono ?_; rintro e w6 ⟨ok, rfl, hkp, hcase⟩; have HKP := Lib.hid hkp; have HCS := Lib.hid hcase; clear hkp hcase; refine Hid.out ?_)
      have HB6 : Hid (Below wr.heap.size wr w6) := Lib.hid (HB2.out.trans (HKP.out.below (by simp; omega) (by rintro i rfl; omega)))
      rcases HCS.out with ⟨rfl, hnf⟩ | ⟨rfl, l, rv, sv, wv, hsol, hwk, hfn⟩
      · have HNF : Hid (∃ f ∈ fns rs, ¬ Fine (fns rs) f) := Lib.hid ⟨r.fn, List.mem_map.2 ⟨r, List.mem_of_getElem? HX.out, rfl⟩, hnf⟩
        clear hnf x0 x1 x2 x3 x4
        refine Lib.hid ?_
        go_wp2
        go_ret2
        exact ⟨HT.out.tj.below.trans (HB6.out.mono hz), .inl ⟨rfl, HNF.out⟩⟩
      · obtain ⟨ra, sa, m, vs, hrv, hsv, _⟩ := hfn.at_
        subst hrv hsv
        have HT6 := Lib.hid (HT.out.on HB6.out)
        have HSOL := Lib.hid hsol
        have HFN := Lib.hid hfn
        have HWK := Lib.hid hwk
        have e6 : w6.cell? ⟨wr.heap.size + 1, 6, none⟩ = some (.slice (some ⟨ra, 0, none⟩) m m) := hwk.cells.2.2.2.2.2.2.1
        have e7 : w6.cell? ⟨wr.heap.size + 1, 7, none⟩ = some (.slice (some ⟨sa, 0, none⟩) m m) := hwk.cells.2.2.2.2.2.2.2.1
        have t0 : w6.cell? ⟨w.heap.size, 0, none⟩ = some (.slice RA k rc) := HT6.out.tj.blk.cell 0
        have t0a : ∀ o : Obj, (w6.alloc o).cell? ⟨w.heap.size, 0, none⟩ = some (.slice RA k rc) := fun o => (HT6.out.tj.blk.alloc o).cell 0
        have hz6 : wr.heap.size + 1 < w6.heap.size := hwk.blk.lt
        clear hsol hfn hwk x0 x1 x2 x3 x4 HCS
        refine Lib.hid ?_
        go_wp2
        have HOA := Lib.hid (own_al HT6.out.tj.rr (.cells #[(.slice (some ⟨ra, 0, none⟩) m m)] 103))
        have HRd := Lib.hid (one_reads w6 103 [(.slice (some ⟨ra, 0, none⟩) m m)] 1 rfl)
        have HRV : Hid (∀ u ∈ [Value.slice (some ⟨ra, 0, none⟩) m m], u.oneCell' = true) := Lib.hid (fun u hu => by simp at hu; subst hu; rfl)
        have HSV : Hid (∀ u ∈ [Value.slice (some ⟨sa, 0, none⟩) m m], u.oneCell' = true) := Lib.hid (fun u hu => by simp at hu; subst hu; rfl)
        go_region_law (refine step_bools rfl _ _ rfl w.heap.size (.slice RA k rc) k rvs rfl HOA.out (w6.heap.size + 1) (some ⟨w6.heap.size, 0, none⟩) 1 1 [(.slice (some ⟨ra, 0, none⟩) m m)] rfl HRd.out HRV.out (by omega) (by simp; omega) ?_; intro v' w8 hown hgr hor; obtain ⟨RA2, rc2, rfl, l8, l9, f8, ht8, hk8⟩ := HT6.out.tj.pushR _ hown (grown_of_drew hgr); have HT8 := Lib.hid ht8; have HK8 := Lib.hid hk8; clear hown hgr hor ht8 hk8)
        all_goals
          go_wp2
          obtain ⟨W9, hW9⟩ : ∃ W9, W9 = w8.setCell ⟨w.heap.size, 0, none⟩ (.slice RA2 (k + 1) rc2) := ⟨_, rfl⟩
          have HT9 : Hid (TJ w w.heap.size (k + 1) k (rvs ++ [(.slice (some ⟨ra, 0, none⟩) m m)]) svs RA2 rc2 SA sc W9) := Lib.hid (by rw [hW9]; exact HT8.out)
          have HK9 : Hid (Kp w6 W9 (ExT w.heap.size (.slice RA k rc))) := Lib.hid (by rw [hW9]; exact HK8.out)
          have hbg : Blk W9 (wr.heap.size + 1) 107 (WkC (some ⟨b, off, none⟩) n c r (.slice (some ⟨ra, 0, none⟩) m m) (.slice (some ⟨sa, 0, none⟩) m m) wv) := HK9.out.blk HWK.out.blk (by
            rintro (hx | hx)
            · omega
            · exact own_ty HT6.out.tj.rr HWK.out.blk (by decide) hx)
          have g7 : W9.cell? ⟨wr.heap.size + 1, 7, none⟩ = some (.slice (some ⟨sa, 0, none⟩) m m) := hbg.cell 7
          have t1 : W9.cell? ⟨w.heap.size, 1, none⟩ = some (.slice SA k sc) := HT9.out.blk.cell 1
          have t1a : ∀ o : Obj, (W9.alloc o).cell? ⟨w.heap.size, 1, none⟩ = some (.slice SA k sc) := fun o => (HT9.out.blk.alloc o).cell 1
          have hz9 : w6.heap.size ≤ W9.heap.size := HK9.out.size
          have HOS := Lib.hid (own_al HT9.out.ss (.cells #[(.slice (some ⟨sa, 0, none⟩) m m)] 104))
          have HRs := Lib.hid (one_reads W9 104 [(.slice (some ⟨sa, 0, none⟩) m m)] 1 rfl)
          rw [← hW9]
          clear hW9 hbg l8 l9 f8 e6 e7 t0 t0a
          go_region_law (refine step_stks rfl _ _ rfl w.heap.size (.slice SA k sc) k svs rfl HOS.out (W9.heap.size + 1) (some ⟨W9.heap.size, 0, none⟩) 1 1 [(.slice (some ⟨sa, 0, none⟩) m m)] rfl HRs.out HSV.out (by omega) (by simp; omega) ?_; intro v' w10 hown hgr hor; obtain ⟨SA2, sc2, rfl, l10, l11, f10, ht10, hk10⟩ := HT9.out.pushS _ hown (grown_of_drew hgr); have HT10 := Lib.hid ht10; have HK10 := Lib.hid hk10; clear hown hgr hor ht10 hk10)
          all_goals
            have HTN := Lib.hid (HT6.out.next HX.out HSOL.out HFN.out HT9.out HK9.out HT10.out HK10.out)
            go_wp2
            go_roundw
            case rel => exact ⟨k + 1, ls ++ [l], rvs ++ [(.slice (some ⟨ra, 0, none⟩) m m)], svs ++ [(.slice (some ⟨sa, 0, none⟩) m m)], RA2, rc2, SA2, sc2, by omega, by go_num, HTN⟩
            case measure => simp [intOf]; omega
    · obtain rfl : n = k := by omega
      clear hlt hk
      go_wp2
      go_ret2
      exact ⟨HT.out.tj.below, .inr ⟨_, ls, rvs, svs, RA, rc, SA, sc, rfl, HT.out⟩⟩
end Go.Proofs.Ytdoabcmfblmklaa

/-
  Package code's Bounded.
-/
namespace Go.Proofs.Ytdoabcmfblmklaa
set_option linter.unusedVariables false
open Go.ChangeShapes Go.WideShapes Go.ChangeAt Go.RowKit

set_option maxRecDepth 100000 in
set_option maxHeartbeats 1600000 in
theorem bnd_any (B : Nat) (r : Raw) (w : World) (h : RdF w B r) (hw : WfF r.fn) (hB : B ≤ w.heap.size) :
    Calls Try.prog 32 #[.agg #[.int .i64 r.fn.params, .slice r.lo r.fn.locals.length r.lc, .bool r.fn.result, .int .i64 r.fn.keep, .slice r.co r.fn.code.length r.cc]] w fun e w' => e = .returned (.bool (bndF r.fn)) ∧ Below w.heap.size w w' := by
  obtain ⟨p, HP⟩ : ∃ p, Hid (p = r.fn.params) := ⟨_, rfl⟩
  obtain ⟨nl, HNL⟩ : ∃ p, Hid (p = r.fn.locals.length) := ⟨_, rfl⟩
  obtain ⟨nc, HNC⟩ : ∃ p, Hid (p = r.fn.code.length) := ⟨_, rfl⟩
  have hb : bndF r.fn = (decide (p ≤ 4) && decide (nl ≤ 16) && decide (nc ≤ 256)) := by unfold bndF; rw [HP.out, HNL.out, HNC.out]
  have h1 := hw.ll
  have h2 := hw.cl
  rw [← HNL.out] at h1
  rw [← HNC.out] at h2
  rw [hb, ← HP.out, ← HNL.out, ← HNC.out]
  clear hb h hw
  have HB : ∀ o : Obj, Hid (Below w.heap.size w (w.alloc o)) := fun o => (Below.refl _ _).alloc (Nat.le_refl _) o
  by_cases c1 : p ≤ 4
  · by_cases c2 : nl ≤ 16
    · by_cases c3 : nc ≤ 256
      · rw [decide_eq_true c1, decide_eq_true c2, decide_eq_true c3]
        have g3 : decide ((nc : Int) ≤ 256) = true := by simp; omega
        go_enter Try.func32, Try.ntmps32
        go_wp2
        go_ret
        exact ⟨rfl, (HB _).out⟩
      · rw [decide_eq_true c1, decide_eq_true c2, decide_eq_false c3]
        have g3 : decide ((nc : Int) ≤ 256) = false := by simp; omega
        go_enter Try.func32, Try.ntmps32
        go_wp2
        go_ret
        exact ⟨rfl, (HB _).out⟩
    · rw [decide_eq_true c1, decide_eq_false c2]
      have g2 : decide ((nl : Int) ≤ 16) = false := by simp; omega
      go_enter Try.func32, Try.ntmps32
      go_wp2
      go_ret
      exact ⟨rfl, (HB _).out⟩
  · rw [decide_eq_false c1]
    have g1 : decide (p ≤ 4) = false := by simpa using c1
    go_enter Try.func32, Try.ntmps32
    go_wp2
    go_ret
    exact ⟨rfl, (HB _).out⟩

set_option maxRecDepth 100000 in
set_option maxHeartbeats 1600000 in
theorem all_bnd (B : Nat) (A : Option Addr) (n c : Nat) (rs : List Raw) (w : World) (h : RdP w B A n rs) (hB : B ≤ w.heap.size) :
    Calls Try.prog 31 #[.slice A n c, .func (.func 32) #[] #[]] w fun e w' => e = .returned (.bool ((fns rs).all bndF)) ∧ Below w.heap.size w w' := by
  have H := Lib.hid h
  have hsz := h.sz
  clear h
  go_enter Try.func31, Try.ntmps31
  go_wp2
  go_loopw [9] (fun i wr => ∃ k : Nat, k ≤ n ∧ i = .int .i64 k ∧ Hid (((fns rs).take k).all bndF = true) ∧ Hid (Below w.heap.size w wr)) (fun i _ => n - (intOf i).toNat)
  case atStart => exact ⟨0, Nat.zero_le _, rfl, rfl, Below.refl _ _⟩
  case round =>
    obtain ⟨k, hk, rfl, HT, HB⟩ := hrel
    by_cases hlt : k < n
    · obtain ⟨b, off, r, rfl, hb, HX, HF, HW, x0, x1, x2, x3, x4⟩ := (H.out.below (HB.out.mono hB)).fn hlt
      have hz := HB.out.size
      have HFN : Hid ((fns rs)[k]? = some r.fn) := Lib.hid (by unfold fns; rw [List.getElem?_map, HX.out]; rfl)
      have HB2 : Hid (Below w.heap.size w (wr.alloc (.cells #[.int .i64 r.fn.params, .slice r.lo r.fn.locals.length r.lc, .bool r.fn.result, .int .i64 r.fn.keep, .slice r.co r.fn.code.length r.cc] 46))) := HB.out.alloc hz _
      have HF2 : Hid (RdF (wr.alloc (.cells #[.int .i64 r.fn.params, .slice r.lo r.fn.locals.length r.lc, .bool r.fn.result, .int .i64 r.fn.keep, .slice r.co r.fn.code.length r.cc] 46)) B r) := HF.out.keep fun p hp => World.cell?_alloc_lt wr _ p (by omega)
      cases hp : bndF r.fn with
      | true =>
        have HT1 : Hid (((fns rs).take (k + 1)).all bndF = true) := Lib.hid (by rw [List.take_add_one, HFN.out, List.all_append, HT.out]; simp [hp])
        have HP := Lib.hid hp
        clear hp
        go_wp2_with (go_at_call 32; refine (bnd_any B r _ HF2.out HW.out (by simp; omega)).mono ?_; rintro e w2 ⟨rfl, hb2⟩; rw [HP.out]; refine Hid.out ?_)
        have HB3 := Lib.hid (HB2.out.trans (hb2.mono (by simp; omega)))
        clear hb2
        refine Lib.hid ?_
        go_wp2
        go_roundw
        case rel => exact ⟨k + 1, by omega, by go_num, HT1, HB3⟩
        case measure => simp [intOf]; omega
      | false =>
        have HA : Hid ((fns rs).all bndF = false) := Lib.hid (by
          rw [List.all_eq_false]
          exact ⟨r.fn, List.mem_of_getElem? HFN.out, by simp [hp]⟩)
        have HP := Lib.hid hp
        clear hp
        go_wp2_with (go_at_call 32; refine (bnd_any B r _ HF2.out HW.out (by simp; omega)).mono ?_; rintro e w2 ⟨rfl, hb2⟩; rw [HP.out]; refine Hid.out ?_)
        have HB3 := Lib.hid (HB2.out.trans (hb2.mono (by simp; omega)))
        clear hb2
        refine Lib.hid ?_
        go_wp2
        go_ret
        exact ⟨by rw [HA.out]; rfl, HB3.out⟩
    · obtain rfl : n = k := by omega
      clear hlt hk
      have HA : Hid ((fns rs).all bndF = true) := Lib.hid (by
        have h := HT.out
        rw [List.take_of_length_le (by rw [length_fns, H.out.len]; omega)] at h
        exact h)
      go_wp2
      go_ret
      exact ⟨by rw [HA.out]; rfl, HB.out⟩

set_option maxRecDepth 100000 in
set_option maxHeartbeats 1600000 in
theorem bounded_any (B : Nat) (A : Option Addr) (n c : Nat) (rs : List Raw) (w : World) (h : RdP w B A n rs) (hB : B ≤ w.heap.size) :
    Calls Try.prog 19 #[.agg #[.slice A n c]] w fun e w' => e = .returned (.bool (bnd (fns rs))) ∧ Below w.heap.size w w' := by
  have hl := h.len
  have hsz := h.sz
  have hb : bnd (fns rs) = (decide (n ≤ 16) && (fns rs).all bndF) := by unfold bnd; rw [length_fns, hl]
  rw [hb]
  have H := Lib.hid (h.alloc hB (.cells #[.slice A n c] 24))
  have HB : ∀ o : Obj, Hid (Below w.heap.size w (w.alloc o)) := fun o => (Below.refl _ _).alloc (Nat.le_refl _) o
  clear hb h hl
  by_cases c1 : n ≤ 16
  · rw [decide_eq_true c1]
    go_enter Try.func19, Try.ntmps19
    go_wp2_with (go_at_call 31; refine (all_bnd B A n c rs _ H.out (by simp; omega)).mono ?_; rintro e w2 ⟨rfl, hb2⟩; refine Hid.out ?_)
    have HB2 := Lib.hid ((HB _).out.trans (hb2.mono (by simp)))
    clear hb2
    refine Lib.hid ?_
    go_wp2
    go_ret
    exact ⟨rfl, HB2.out⟩
  · rw [decide_eq_false c1]
    have g1 : decide ((n : Int) ≤ 16) = false := by simp; omega
    go_enter Try.func19, Try.ntmps19
    go_wp2
    go_ret
    exact ⟨rfl, (HB _).out⟩
end Go.Proofs.Ytdoabcmfblmklaa

/-
  The small functions on operations and kinds: isKind, isOp, argSize, immSize; the document's Width.
-/
namespace Go.Proofs.Ytdoabcmfblmklaa
set_option linter.unusedVariables false
open Go.ChangeShapes Go.WideShapes Go.ChangeAt Go.RowKit

set_option maxHeartbeats 800000 in
theorem isKind_any (k : Int) (w : World) :
    Calls Try.prog 69 #[.int .u8 k] w fun e w' => e = .returned (.bool (kindB k)) ∧ w = w' := by
  by_cases h0 : k = 0
  · subst h0
    go_enter Try.func69, Try.ntmps69
    go_wp2
    go_ret
    exact ⟨rfl, rfl⟩
  · have g0 : (k == 0) = false := by simpa using h0
    by_cases h1 : k = 1
    · subst h1
      clear g0 h0
      go_enter Try.func69, Try.ntmps69
      go_wp2
      go_ret
      exact ⟨rfl, rfl⟩
    · have g1 : (k == 1) = false := by simpa using h1
      have hk : kindB k = false := by simp [kindB, h0, h1]
      have HK := Lib.hid hk
      clear hk h0 h1
      rw [HK.out]
      go_enter Try.func69, Try.ntmps69
      go_wp2
      go_ret
      exact ⟨rfl, rfl⟩
set_option maxHeartbeats 800000 in
theorem isOp_any (k : Int) (w : World) :
    Calls Try.prog 81 #[.int .u8 k] w fun e w' => e = .returned (.bool (opB k)) ∧ w = w' := by
  by_cases h0 : 1 ≤ k
  · by_cases h1 : k ≤ 32
    · have hk : opB k = true := by simp [opB, h0, h1]
      rw [hk]
      clear hk
      go_enter Try.func81, Try.ntmps81
      go_wp2
      go_ret
      exact ⟨rfl, rfl⟩
    · have hk : opB k = false := by simp [opB, h0, h1]
      rw [hk]
      clear hk
      have g1 : decide (k ≤ 32) = false := by simpa using h1
      go_enter Try.func81, Try.ntmps81
      go_wp2
      go_ret
      exact ⟨rfl, rfl⟩
  · have hk : opB k = false := by simp [opB, h0]
    rw [hk]
    clear hk
    have g1 : decide (1 ≤ k) = false := by simpa using h0
    go_enter Try.func81, Try.ntmps81
    go_wp2
    go_ret
    exact ⟨rfl, rfl⟩
set_option maxHeartbeats 1600000 in
theorem argSize_any (k : Int) (w : World) :
    Calls Try.prog 57 #[.int .u8 k] w fun e w' => e = .returned (.int .i64 (argW k : Nat)) ∧ w = w' := by
  by_cases hs : k = 2 ∨ k = 3 ∨ k = 4 ∨ k = 21 ∨ k = 22 ∨ k = 23 ∨ k = 25
  · rcases hs with rfl | rfl | rfl | rfl | rfl | rfl | rfl
    all_goals
      go_enter Try.func57, Try.ntmps57
      go_wp2
      go_ret
      exact ⟨rfl, rfl⟩
  · have hw : argW k = 0 := by
      unfold argW
      rw [if_neg (by omega), if_neg (by omega)]
    have g2 : (k == 2) = false := by simp; omega
    have g3 : (k == 3) = false := by simp; omega
    have g4 : (k == 4) = false := by simp; omega
    have g5 : (k == 21) = false := by simp; omega
    have g6 : (k == 22) = false := by simp; omega
    have g7 : (k == 23) = false := by simp; omega
    have g8 : (k == 25) = false := by simp; omega
    rw [hw]
    clear hw hs
    go_enter Try.func57, Try.ntmps57
    go_wp2
    go_ret
    exact ⟨rfl, rfl⟩
set_option maxHeartbeats 1600000 in
theorem immSize_any (k : Int) (w : World) :
    Calls Try.prog 58 #[.int .u8 k] w fun e w' => e = .returned (.int .i64 (immW k : Nat)) ∧ w = w' := by
  by_cases hs : k = 1
  · subst hs
    go_enter Try.func58, Try.ntmps58
    go_wp2
    go_ret
    exact ⟨rfl, rfl⟩
  · have hw : immW k = 0 := by
      unfold immW
      rw [if_neg hs]
    have g2 : (k == 1) = false := by simp; omega
    rw [hw]
    clear hw hs
    go_enter Try.func58, Try.ntmps58
    go_wp2
    go_ret
    exact ⟨rfl, rfl⟩
/-- how wide the document calls an operation's operand -/
def widthD (op : Int) : Int := if opB op then ((argW op + immW op : Nat) : Int) else -1
end Go.Proofs.Ytdoabcmfblmklaa

/-
  Package code's fits, flagByte, put.
-/
namespace Go.Proofs.Ytdoabcmfblmklaa
set_option linter.unusedVariables false
open Go.ChangeShapes Go.WideShapes Go.ChangeAt Go.RowKit

theorem pow_256 (k : Nat) : (2 : Int) ^ (8 * k) = 256 ^ k := by rw [Int.pow_mul]; rfl
theorem pow_pos256 (k : Nat) : (0 : Int) < 256 ^ k := Int.pow_pos (by omega)
theorem fit_div {n : Nat} {v : Int} (h : 0 ≤ v) : fitB n v = (v / 2 ^ (8 * n) == 0) := by
  unfold fitB
  rw [pow_256]
  have hp := pow_pos256 n
  generalize (256 : Int) ^ n = q at hp ⊢
  rw [Bool.eq_iff_iff]
  simp only [decide_eq_true_eq, beq_iff_eq]
  constructor
  · intro ⟨_, h2⟩
    exact Int.ediv_eq_zero_of_lt h h2
  · intro h2
    refine ⟨h, ?_⟩
    have := Int.lt_ediv_add_one_mul_self v hp
    rw [h2] at this
    omega

set_option maxHeartbeats 800000 in
theorem fits_any (v : Int) (n : Nat) (w : World) (h0 : 0 ≤ v) (h1 : v ≤ 18446744073709551615) (hn : n ≤ 8) :
    Calls Try.prog 54 #[.int .u64 v, .int .i64 n] w fun e w' => e = .returned (.bool (fitB n v)) ∧ w = w' := by
  rw [fit_div h0]
  go_enter Try.func54, Try.ntmps54
  go_wp2
  go_ret
  exact ⟨rfl, rfl⟩
set_option maxHeartbeats 800000 in
theorem flagByte_any (b : Bool) (w : World) :
    Calls Try.prog 56 #[.bool b] w fun e w' => e = .returned (.int .u8 (if b then 1 else 0)) ∧ w = w' := by
  cases b
  all_goals
    go_enter Try.func56, Try.ntmps56
    go_wp2
    go_ret
    exact ⟨rfl, rfl⟩
theorem own_alloc' {w : World} {base size n : Nat} {e : TypeId} {v : Value} {xs : List Value} (h : w.ownsRow base e size v n xs) (o : Obj) : (w.alloc o).ownsRow base e size v n xs := h.alloc o
theorem blk_own {w w' : World} {base size n p : Nat} {e t : TypeId} {v : Value} {xs : List Value} {cs : Array Value} (hb : Blk w p t cs) (h : w.ownsRow base e size v n xs) (hg : w.grownBy w' v.ownBlock) (hne : e ≠ t) : Blk w' p t cs :=
  hb.grown hg fun e' => own_blk_ne h hb hne e'.symm
/-- a row of the call's own has grown: nothing old has turned but its own block; it lies there still, or in what is new -/
def Grew (w : World) (v : Value) (w' : World) (v' : Value) : Prop := w.grownBy w' v.ownBlock ∧ (v'.ownBlock = v.ownBlock ∨ ∃ g, v'.ownBlock = some g ∧ w.heap.size ≤ g)
theorem Grew.refl (w : World) (v : Value) : Grew w v w v := ⟨World.grownBy.refl w _, .inl rfl⟩
theorem Grew.trans {w w1 w2 : World} {v v1 v2 : Value} (h : Grew w v w1 v1) (k : Grew w1 v1 w2 v2) : Grew w v w2 v2 := by
  have hs := h.1.size
  refine ⟨⟨k.1.os.trans h.1.os, k.1.tape.trans h.1.tape, k.1.output.trans h.1.output, Nat.le_trans hs k.1.size, fun i hi hn => (k.1.block i (by omega) ?_).trans (h.1.block i hi hn)⟩, ?_⟩
  · rcases h.2 with h2 | ⟨g, h2, h3⟩
    · rw [h2]; exact hn
    · rw [h2]; intro e; injection e with e; omega
  · rcases k.2 with k2 | ⟨g, k2, k3⟩
    · rcases h.2 with h2 | ⟨g, h2, h3⟩
      · exact .inl (k2.trans h2)
      · exact .inr ⟨g, k2.trans h2, h3⟩
    · exact .inr ⟨g, k2, by omega⟩
theorem Grew.app {w w' : World} {v v' : Value} {o : Obj} (hg : (w.alloc o).grownBy w' v.ownBlock) (ho : v'.ownBlock = v.ownBlock ∨ v'.ownBlock = some (w.alloc o).heap.size) : Grew w v w' v' := by
  have hs := hg.size
  simp at hs
  refine ⟨⟨hg.os, hg.tape, hg.output, by omega, fun i hi hn => (hg.block i (by simp; omega) hn).trans (Below.heap_alloc w o i hi)⟩, ?_⟩
  rcases ho with ho | ho
  · exact .inl ho
  · exact .inr ⟨_, ho, by simp⟩
theorem Grew.alloc {w w' : World} {v v' : Value} (h : Grew w v w' v') (o : Obj) : Grew w v (w'.alloc o) v' := ⟨only_alloc h.1 o, h.2⟩
theorem Grew.below {w w' : World} {v v' : Value} (h : Grew w v w' v') {w2 : World} (hb : Below w'.heap.size w' w2) : Grew w v w2 v' := h.trans ⟨only_of_below hb _, .inl rfl⟩
theorem Grew.drew {w w' : World} {v v' : Value} (h : Grew w v w' v') : Grew w v w'.drew v' := ⟨only_drew h.1, h.2⟩
theorem Grew.blk {w w' : World} {base size n q : Nat} {e t : TypeId} {v v' : Value} {xs : List Value} {cs : Array Value} (h : Grew w v w' v') (hb : Blk w q t cs) (ho : w.ownsRow base e size v n xs) (hne : e ≠ t) : Blk w' q t cs := blk_own hb ho h.1 hne
theorem Grew.toBelow {w w' : World} {base size n : Nat} {e : TypeId} {v v' : Value} {xs : List Value} (h : Grew w v w' v') (ho : w.ownsRow base e size v n xs) (hb : base ≤ w.heap.size) : Below base w w' :=
  (Below.refl base w).grown h.1 hb fun i hi => (own_block_le ho hi).1
/-- what 'put' leaves: the row has grown by so many bytes -/
def PutW (w : World) (base : Nat) (v : Value) (l : List Int) (e : Ending) (w' : World) : Prop :=
  ∃ A c, e = .returned (.slice A l.length c) ∧ w'.ownsRow base 5 1 (.slice A l.length c) l.length (u8c l) ∧ Below base w w' ∧ Grew w v w' (.slice A l.length c)

set_option maxHeartbeats 1600000 in
theorem put_any (base : Nat) (A0 : Option Addr) (m c0 : Nat) (l : List Int) (v : Int) (n : Nat) (w : World) (h : w.ownsRow base 5 1 (.slice A0 m c0) m (u8c l)) (hm : l.length = m) (h0 : 0 ≤ v) (h1 : v ≤ 18446744073709551615) (hn : n ≤ 8)
    (hb : base ≤ w.heap.size) (hr : m ≤ 4294967296) :
    Calls Try.prog 29 #[.slice A0 m c0, .int .u64 v, .int .i64 n] w (PutW w base (.slice A0 m c0) (l ++ le n v)) := by
  have H := Lib.hid h
  have HM := Lib.hid hm
  clear h hm
  go_enter Try.func29, Try.ntmps29
  go_wp2
  go_loopw [0, 9] (fun s i wr => ∃ (k : Nat) (A : Option Addr) (c : Nat), k ≤ n ∧ i = .int .i64 k ∧ s = .slice A (m + k) c ∧ Hid (wr.ownsRow base 5 1 (.slice A (m + k) c) (m + k) (u8c (l ++ le k v))) ∧ Hid (Grew w (.slice A0 m c0) wr (.slice A (m + k) c))) (fun _ i _ => n - (intOf i).toNat)
  case atStart => exact ⟨0, A0, c0, Nat.zero_le _, rfl, rfl, (by show w.ownsRow _ _ _ _ _ _; simpa [le] using H.out), Grew.refl _ _⟩
  case round =>
    obtain ⟨k, A, c, hk, rfl, rfl, HO, HB⟩ := hrel
    have hz := HB.out.1.size
    by_cases hlt : k < n
    · have HRd := Lib.hid (one_reads wr 5 [.int .u8 (v / 2 ^ (8 * k) % 256)] 1 rfl)
      have HOne : Hid (∀ u ∈ [Value.int .u8 (v / 2 ^ (8 * k) % 256)], u.oneCell' = true) := Lib.hid (u8c_one [v / 2 ^ (8 * k) % 256])
      have HOa := Lib.hid (own_alloc' HO.out (.cells #[.int .u8 (v / 2 ^ (8 * k) % 256)] 5))
      go_wp2_with (at_builtin; refine app_byte rfl _ _ rfl base (.slice A (m + k) c) (m + k) _ rfl HOa.out (wr.heap.size + 1) (some ⟨wr.heap.size, 0, none⟩) 1 1 [.int .u8 (v / 2 ^ (8 * k) % 256)] rfl HRd.out HOne.out (by omega) (by simp; omega) ?_; intro v' w3 hown hgr hor; refine Hid.out ?_)
      obtain ⟨A3, c3, rfl⟩ := own_slice hown
      have HO3 : Hid (w3.ownsRow base 5 1 (.slice A3 (m + (k + 1)) c3) (m + (k + 1)) (u8c (l ++ le (k + 1) v))) := by
        rw [le_snoc, ← pow_256, ← List.append_assoc, u8c_append]
        exact hown
      have HB3 : Hid (Grew w (.slice A0 m c0) w3 (.slice A3 (m + (k + 1)) c3)) := HB.out.trans (Grew.app hgr hor)
      clear hown hgr hor
      refine Lib.hid ?_
      go_wp2
      go_roundw
      case rel => exact ⟨k + 1, A3, c3, by omega, by go_num, rfl, HO3, HB3⟩
      case measure => simp [intOf]; omega
    · obtain rfl : n = k := by omega
      clear hlt hk
      go_wp2
      go_ret
      have hl : (l ++ le n v).length = m + n := by rw [List.length_append, HM.out, length_le]
      refine ⟨A, c, by rw [hl]; rfl, by rw [hl]; exact HO.out, HB.out.toBelow H.out hb, by rw [hl]; exact HB.out⟩
end Go.Proofs.Ytdoabcmfblmklaa

/-
  Package code's instrHasBytes, funcHasBytes, hasBytes.
-/
namespace Go.Proofs.Ytdoabcmfblmklaa
set_option linter.unusedVariables false
open Go.ChangeShapes Go.WideShapes Go.ChangeAt Go.RowKit

theorem isOp_yes (k : Int) (w : World) (h : opB k = true) : Calls Try.prog 81 #[.int .u8 k] w fun e w' => e = .returned (.bool true) ∧ w' = w := (isOp_any k w).mono fun _ _ ⟨h1, h2⟩ => ⟨by rw [h1, h], h2.symm⟩
theorem isOp_no (k : Int) (w : World) (h : opB k = false) : Calls Try.prog 81 #[.int .u8 k] w fun e w' => e = .returned (.bool false) ∧ w' = w := (isOp_any k w).mono fun _ _ ⟨h1, h2⟩ => ⟨by rw [h1, h], h2.symm⟩
theorem fits_yes (v : Int) (n : Nat) (w : World) (h0 : 0 ≤ v) (h1 : v ≤ 18446744073709551615) (hn : n ≤ 8) (h : fitB n v = true) : Calls Try.prog 54 #[.int .u64 v, .int .i64 n] w fun e w' => e = .returned (.bool true) ∧ w' = w := (fits_any v n w h0 h1 hn).mono fun _ _ ⟨h1, h2⟩ => ⟨by rw [h1, h], h2.symm⟩
theorem fits_no (v : Int) (n : Nat) (w : World) (h0 : 0 ≤ v) (h1 : v ≤ 18446744073709551615) (hn : n ≤ 8) (h : fitB n v = false) : Calls Try.prog 54 #[.int .u64 v, .int .i64 n] w fun e w' => e = .returned (.bool false) ∧ w' = w := (fits_any v n w h0 h1 hn).mono fun _ _ ⟨h1, h2⟩ => ⟨by rw [h1, h], h2.symm⟩
theorem argSize_q (k : Int) (w : World) : Calls Try.prog 57 #[.int .u8 k] w fun e w' => e = .returned (.int .i64 (argW k : Nat)) ∧ w' = w := (argSize_any k w).mono fun _ _ ⟨h1, h2⟩ => ⟨h1, h2.symm⟩
theorem immSize_q (k : Int) (w : World) : Calls Try.prog 58 #[.int .u8 k] w fun e w' => e = .returned (.int .i64 (immW k : Nat)) ∧ w' = w := (immSize_any k w).mono fun _ _ ⟨h1, h2⟩ => ⟨h1, h2.symm⟩

/-- an int as a word -/
def asW (v : Int) : Int := if 0 ≤ v then v else v + 18446744073709551616
theorem asW_bd {v : Int} (h0 : -9223372036854775808 ≤ v) (h1 : v ≤ 9223372036854775807) : 0 ≤ asW v ∧ asW v ≤ 18446744073709551615 := by unfold asW; split <;> omega
theorem fit_asW {n : Nat} {v : Int} (h0 : -9223372036854775808 ≤ v) (h1 : v ≤ 9223372036854775807) (hn : n ≤ 2) : fitB n (asW v) = fitB n v := by
  have hp : (256 : Int) ^ n ≤ 65536 := by
    obtain h | h | h : n = 0 ∨ n = 1 ∨ n = 2 := by omega
    all_goals rw [h]; decide
  unfold fitB asW
  split
  · rfl
  · rw [decide_eq_false (by omega), decide_eq_false (by omega)]

set_option maxRecDepth 100000 in
set_option maxHeartbeats 3200000 in
theorem okI_any (i : Ins) (w : World) (hw : WfI i) :
    Calls Try.prog 71 #[.agg #[.int .u8 i.op, .int .i64 i.arg, .int .u64 i.imm]] w fun e w' => e = .returned (.bool (okI i)) ∧ Below w.heap.size w w' := by
  obtain ⟨o0, o1, a0, a1, m0, m1⟩ := hw
  obtain ⟨op, arg, imm⟩ := i
  simp only at *
  have hb := asW_bd a0 a1
  obtain ⟨b0, b1⟩ := hb
  have hwr : IntKind.u64.wrap arg = asW arg := by rw [IntKind.wrap_u64]; unfold asW; split <;> omega
  obtain ⟨aw, HAW⟩ : ∃ aw, Hid (aw = asW arg) := ⟨_, rfl⟩
  rw [← HAW.out] at hwr b0 b1
  have hAB : ∀ o : Obj, Hid (Below w.heap.size w (w.alloc o)) := fun o => (Below.refl _ _).alloc (Nat.le_refl _) o
  unfold okI
  simp only
  cases ho : opB op with
  | false =>
    have HO := Lib.hid ho
    clear ho
    go_enter Try.func71, Try.ntmps71
    go_wp2
    go_quiet ((go_at_call 81; exact Calls.quiet_of_same (isOp_no _ _ HO.out)))
    go_wp2
    go_ret
    exact ⟨rfl, below_drewN (hAB _).out _⟩
  | true =>
    have HO := Lib.hid ho
    clear ho
    cases ha : fitB (argW op) arg with
    | false =>
      have HA : Hid (fitB (argW op) aw = false) := Lib.hid (by rw [HAW.out, fit_asW a0 a1 (argW_le op), ha])
      clear ha
      go_enter Try.func71, Try.ntmps71
      go_wp2
      go_quiet ((first
        | (go_at_call 81; exact Calls.quiet_of_same (isOp_yes _ _ HO.out))
        | (go_at_call 57; exact Calls.quiet_of_same (argSize_q _ _))
        | (go_at_call 54; exact Calls.quiet_of_same (fits_no aw _ _ b0 b1 (Nat.le_trans (argW_le op) (by omega)) HA.out))))
      go_wp2
      go_ret
      exact ⟨rfl, below_drewN (hAB _).out _⟩
    | true =>
      have HA : Hid (fitB (argW op) aw = true) := Lib.hid (by rw [HAW.out, fit_asW a0 a1 (argW_le op), ha])
      clear ha
      cases hm : fitB (immW op) imm with
      | false =>
        have HM := Lib.hid hm
        clear hm
        go_enter Try.func71, Try.ntmps71
        go_wp2
        go_quiet ((first
          | (go_at_call 81; exact Calls.quiet_of_same (isOp_yes _ _ HO.out))
          | (go_at_call 57; exact Calls.quiet_of_same (argSize_q _ _))
          | (go_at_call 58; exact Calls.quiet_of_same (immSize_q _ _))
          | (go_at_call 54; with_reducible exact Calls.quiet_of_same (fits_yes aw (argW op) _ b0 b1 (Nat.le_trans (argW_le op) (by omega)) HA.out))
          | (go_at_call 54; with_reducible exact Calls.quiet_of_same (fits_no imm (immW op) _ m0 m1 (immW_le op) HM.out))))
        go_wp2
        go_ret
        exact ⟨rfl, below_drewN (hAB _).out _⟩
      | true =>
        have HM := Lib.hid hm
        clear hm
        go_enter Try.func71, Try.ntmps71
        go_wp2
        go_quiet ((first
          | (go_at_call 81; exact Calls.quiet_of_same (isOp_yes _ _ HO.out))
          | (go_at_call 57; exact Calls.quiet_of_same (argSize_q _ _))
          | (go_at_call 58; exact Calls.quiet_of_same (immSize_q _ _))
          | (go_at_call 54; with_reducible exact Calls.quiet_of_same (fits_yes aw (argW op) _ b0 b1 (Nat.le_trans (argW_le op) (by omega)) HA.out))
          | (go_at_call 54; with_reducible exact Calls.quiet_of_same (fits_yes imm (immW op) _ m0 m1 (immW_le op) HM.out))))
        go_wp2
        go_ret
        exact ⟨rfl, below_drewN (hAB _).out _⟩

set_option maxRecDepth 100000 in
set_option maxHeartbeats 1600000 in
theorem allK_any (B : Nat) (A : Option Addr) (n c : Nat) (ks : List Int) (w : World) (h : Reads w B 1 A n (u8c ks)) (hl : ks.length = n) (hn : n ≤ 140737488351232) :
    Calls Try.prog 68 #[.slice A n c, .func (.func 69) #[] #[]] w fun e w' => e = .returned (.bool (ks.all kindB)) ∧ w' = w := by
  have H := Lib.hid h
  have HL := Lib.hid hl
  clear h hl
  go_enter Try.func68, Try.ntmps68
  go_wp2
  go_loop [9] (fun i => ∃ k : Nat, k ≤ n ∧ i = .int .i64 k ∧ Hid ((ks.take k).all kindB = true)) (fun i => n - (intOf i).toNat)
  case atStart => exact ⟨0, Nat.zero_le _, rfl, rfl⟩
  case round =>
    obtain ⟨k, hk, rfl, HT⟩ := hrel
    by_cases hlt : k < n
    · obtain ⟨b, off, x, rfl, hb, HX, x0⟩ := H.out.byte hlt
      cases hp : kindB x with
      | true =>
        have HT1 : Hid ((ks.take (k + 1)).all kindB = true) := Lib.hid (by rw [List.take_add_one, HX.out, List.all_append, HT.out]; simp [hp])
        have HP := Lib.hid hp
        clear hp
        go_wp2_with (go_at_call 69; refine (isKind_any x _).mono ?_; rintro e w2 ⟨rfl, rfl⟩; rw [HP.out])
        go_round
        case rel => exact ⟨k + 1, by omega, by go_num, HT1⟩
        case measure => simp [intOf]; omega
      | false =>
        have HA : Hid (ks.all kindB = false) := Lib.hid (by
          rw [List.all_eq_false]
          exact ⟨x, List.mem_of_getElem? HX.out, by simp [hp]⟩)
        have HP := Lib.hid hp
        clear hp
        go_wp2_with (go_at_call 69; refine (isKind_any x _).mono ?_; rintro e w2 ⟨rfl, rfl⟩; rw [HP.out])
        go_ret
        exact ⟨by rw [HA.out]; rfl, rfl⟩
    · obtain rfl : n = k := by omega
      clear hlt hk
      have HA : Hid (ks.all kindB = true) := Lib.hid (by
        have h := HT.out
        rw [List.take_of_length_le (by rw [HL.out]; omega)] at h
        exact h)
      go_wp2
      go_ret
      exact ⟨by rw [HA.out]; rfl, rfl⟩

set_option maxRecDepth 100000 in
set_option maxHeartbeats 1600000 in
theorem allI_any (B : Nat) (A : Option Addr) (n c : Nat) (is : List Ins) (w : World) (h : Reads w B 3 A n (insc is)) (hl : is.length = n) (hn : n ≤ 140737488351232) (hw : ∀ i ∈ is, WfI i) (hB : B ≤ w.heap.size) :
    Calls Try.prog 70 #[.slice A n c, .func (.func 71) #[] #[]] w fun e w' => e = .returned (.bool (is.all okI)) ∧ Below w.heap.size w w' := by
  have H := Lib.hid h
  have HL := Lib.hid hl
  have HW := Lib.hid hw
  clear h hl hw
  go_enter Try.func70, Try.ntmps70
  go_wp2
  go_loopw [9] (fun i wr => ∃ k : Nat, k ≤ n ∧ i = .int .i64 k ∧ Hid ((is.take k).all okI = true) ∧ Hid (Below w.heap.size w wr)) (fun i _ => n - (intOf i).toNat)
  case atStart => exact ⟨0, Nat.zero_le _, rfl, rfl, Below.refl _ _⟩
  case round =>
    obtain ⟨k, hk, rfl, HT, HB⟩ := hrel
    by_cases hlt : k < n
    · obtain ⟨b, off, x, rfl, hb, HX, x0, x1, x2⟩ := (H.out.below (HB.out.mono hB)).ins hlt
      have hz := HB.out.size
      have HB2 : Hid (Below w.heap.size w (wr.alloc (.cells #[.int .u8 x.op, .int .i64 x.arg, .int .u64 x.imm] 43))) := HB.out.alloc hz _
      have HWX := Lib.hid (HW.out x (List.mem_of_getElem? HX.out))
      cases hp : okI x with
      | true =>
        have HT1 : Hid ((is.take (k + 1)).all okI = true) := Lib.hid (by rw [List.take_add_one, HX.out, List.all_append, HT.out]; simp [hp])
        have HP := Lib.hid hp
        clear hp
        go_wp2_with (go_at_call 71; refine (okI_any x _ HWX.out).mono ?_; rintro e w2 ⟨rfl, hb2⟩; rw [HP.out]; refine Hid.out ?_)
        have HB3 := Lib.hid (HB2.out.trans (hb2.mono (by simp; omega)))
        clear hb2
        refine Lib.hid ?_
        go_wp2
        go_roundw
        case rel => exact ⟨k + 1, by omega, by go_num, HT1, HB3⟩
        case measure => simp [intOf]; omega
      | false =>
        have HA : Hid (is.all okI = false) := Lib.hid (by
          rw [List.all_eq_false]
          exact ⟨x, List.mem_of_getElem? HX.out, by simp [hp]⟩)
        have HP := Lib.hid hp
        clear hp
        go_wp2_with (go_at_call 71; refine (okI_any x _ HWX.out).mono ?_; rintro e w2 ⟨rfl, hb2⟩; rw [HP.out]; refine Hid.out ?_)
        have HB3 := Lib.hid (HB2.out.trans (hb2.mono (by simp; omega)))
        clear hb2
        refine Lib.hid ?_
        go_wp2
        go_ret
        exact ⟨by rw [HA.out]; rfl, HB3.out⟩
    · obtain rfl : n = k := by omega
      clear hlt hk
      have HA : Hid (is.all okI = true) := Lib.hid (by
        have h := HT.out
        rw [List.take_of_length_le (by rw [HL.out]; omega)] at h
        exact h)
      go_wp2
      go_ret
      exact ⟨by rw [HA.out]; rfl, HB.out⟩
end Go.Proofs.Ytdoabcmfblmklaa
