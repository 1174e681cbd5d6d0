/-
  Package kinds: walkAll, the walk.
-/
import Derived.Test.YtcgoanfhabjpfaaKAll
namespace Go.Proofs.Ytcgoanfhabjpfaa
set_option linter.unusedVariables false
open Go.ChangeShapes Go.WideShapes Go.ChangeAt Go.RowKit

def AllPost (w : World) (B n : Nat) (rs : List Raw) (e : Ending) (w' : World) : Prop := Below w.heap.size w w' ∧
  ((e = .returned (.tuple #[.pointer none, .bool false]) ∧ ∃ f ∈ fns rs, ¬ Fine (fns rs) f) ∨
    ∃ tb ls rvs svs RA rc SA sc, e = .returned (.tuple #[.pointer (some ⟨tb, 0, none⟩), .bool true]) ∧ TI w B tb rs n ls rvs svs RA rc SA sc w')
section
variable {w wr W6 W9 W10 : World} {B tb n k rc sc rc2 sc2 : Nat} {rs : List Raw} {r : Raw} {ls : List (List (Option Stk))} {l : List (Option Stk)} {rvs svs : List Value} {rv sv : Value} {RA SA RA2 SA2 : Option Addr}
theorem TI.zero (h : Blk wr tb 38 #[.slice none 0 0, .slice none 0 0]) (hb : Below w.heap.size w wr) (ht : w.heap.size ≤ tb) : TI w B tb rs 0 [] [] [] none 0 none 0 wr :=
  ⟨⟨h, own_none _ _ _ _, own_none _ _ _ _, hb, ht⟩, rfl, rfl, rfl, (fun j l h => by simp at h), (fun j f h => by omega)⟩
theorem TI.on {W' : World} (h : TI w B tb rs k ls rvs svs RA rc SA sc wr) (hb : Below wr.heap.size wr W') : TI w B tb rs k ls rvs svs RA rc SA sc W' :=
  ⟨h.tj.on hb, h.len, h.lr, h.lsv, fun j l hl => by obtain ⟨rv, sv, h1, h2, h3⟩ := h.each j l hl; exact ⟨rv, sv, h1, h2, h3.below hb⟩, h.sols⟩
theorem TI.next (h : TI w B tb rs k ls rvs svs RA rc SA sc W6) (hr : rs[k]? = some r) (hs : Sol (fns rs) r.fn l) (hf : FnAt W6 B l rv sv) (h9 : TJ w tb (k + 1) k (rvs ++ [rv]) svs RA2 rc2 SA sc W9) (k9 : Kp W6 W9 (ExT tb (.slice RA k rc)))
    (h10 : TJ w tb (k + 1) (k + 1) (rvs ++ [rv]) (svs ++ [sv]) RA2 rc2 SA2 sc2 W10) (k10 : Kp W9 W10 (ExT tb (.slice SA k sc))) : TI w B tb rs (k + 1) (ls ++ [l]) (rvs ++ [rv]) (svs ++ [sv]) RA2 rc2 SA2 sc2 W10 := by
  have keep : ∀ {l rv sv}, FnAt W6 B l rv sv → FnAt W10 B l rv sv := fun hh => (hh.past k9 h.tj.blk h.tj.rr (.inl rfl)).past k10 h9.blk h9.ss (.inr rfl)
  refine ⟨h10, by simp [h.len], by simp [h.lr], by simp [h.lsv], fun j l' hl => ?_, fun j f hj hf' => ?_⟩
  · rcases Nat.lt_or_ge j k with hjk | hjk
    · rw [List.getElem?_append_left (by rw [h.len]; exact hjk)] at hl
      obtain ⟨rv', sv', h1, h2, h3⟩ := h.each j l' hl
      exact ⟨rv', sv', by rw [List.getElem?_append_left (by rw [h.lr]; exact hjk)]; exact h1, by rw [List.getElem?_append_left (by rw [h.lsv]; exact hjk)]; exact h2, keep h3⟩
    · rw [List.getElem?_append_right (by rw [h.len]; exact hjk), h.len] at hl
      obtain ⟨hlt, hle⟩ := List.getElem?_eq_some_iff.1 hl
      have hj0 : j = k := by simp at hlt; omega
      subst hj0
      simp at hle
      subst hle
      exact ⟨rv, sv, by rw [List.getElem?_append_right (by rw [h.lr]; exact Nat.le_refl _), h.lr]; simp, by rw [List.getElem?_append_right (by rw [h.lsv]; exact Nat.le_refl _), h.lsv]; simp, keep hf⟩
  · rcases Nat.lt_or_ge j k with hjk | hjk
    · obtain ⟨l', h1, h2⟩ := h.sols j f hjk hf'
      exact ⟨l', by rw [List.getElem?_append_left (by rw [h.len]; exact hjk)]; exact h1, h2⟩
    · obtain rfl : j = k := by omega
      have hfr : f = r.fn := by
        unfold fns at hf'; rw [List.getElem?_map, hr] at hf'; simpa using hf'.symm
      subst hfr
      exact ⟨l, by rw [List.getElem?_append_right (by rw [h.len]; exact Nat.le_refl _), h.len]; simp, hs⟩
end

set_option maxRecDepth 100000 in
set_option maxHeartbeats 6400000 in
theorem walkAll_any (B : Nat) (A : Option Addr) (n c : Nat) (rs : List Raw) (w : World) (h : RdP w B A n rs) (hB : B ≤ w.heap.size) (hok : okP (fns rs) = true) (hcl : ∀ r ∈ rs, r.fn.code.length ≤ 256) (href : ∀ r ∈ rs, ∀ i ∈ r.fn.code, insRef (fns rs) r.fn i = true) :
    Calls Try.prog 17 #[.slice A n c] w (AllPost w B n rs) := by
  have H := Lib.hid h
  have HOK := Lib.hid hok
  have HCL := Lib.hid hcl
  have HREF := Lib.hid href
  have hn : n ≤ 255 := by have := (okP_iff.1 hok).2.1; rw [length_fns, h.len] at this; exact this
  have HB0 : Hid (Below w.heap.size w (w.alloc (.cells #[.slice none 0 0, .slice none 0 0] 38))) := Lib.hid ((Below.refl _ _).alloc (Nat.le_refl _) _)
  have HT0 : Hid (TI w B w.heap.size rs 0 [] [] [] none 0 none 0 (w.alloc (.cells #[.slice none 0 0, .slice none 0 0] 38))) := Lib.hid (TI.zero (Blk.new w _ _) HB0.out (Nat.le_refl _))
  clear h hok hcl href
  go_enter Try.func17, Try.ntmps17
  go_wp2
  go_loopw [12] (fun i wr => ∃ (k : Nat) (ls : List (List (Option Stk))) (rvs svs : List Value) (RA : Option Addr) (rc : Nat) (SA : Option Addr) (sc : Nat), k ≤ n ∧ i = .int .i64 k ∧ Hid (TI w B w.heap.size rs k ls rvs svs RA rc SA sc wr)) (fun i _ => n - (intOf i).toNat)
  case atStart => exact ⟨0, [], [], [], none, 0, none, 0, Nat.zero_le _, rfl, HT0⟩
  case round =>
    clear HT0
    obtain ⟨k, ls, rvs, svs, RA, rc, SA, sc, hk, rfl, HT⟩ := hrel
    have hz := HT.out.tj.below.size
    have htb := HT.out.tj.blk.lt
    by_cases hlt : k < n
    · obtain ⟨b, off, r, hA, hb, HX, HF, HW, x0, x1, x2, x3, x4⟩ := (H.out.below (HT.out.tj.below.mono hB)).fn hlt
      have hbr : b < wr.heap.size := by omega
      have hmem : r ∈ rs := List.mem_of_getElem? HX.out
      have hokf : okF r.fn = true := (okP_iff.1 HOK.out).2.2 r.fn (List.mem_map.2 ⟨r, hmem, rfl⟩)
      have HB2 : Hid (Below wr.heap.size wr ((wr.alloc (.cells #[.int .i64 r.fn.params, .slice r.lo r.fn.locals.length r.lc, .bool r.fn.result, .int .i64 r.fn.keep, .slice r.co r.fn.code.length r.cc] 47)).alloc (.cells #[.slice A n c, .int .i64 r.fn.params, .slice r.lo r.fn.locals.length r.lc, .bool r.fn.result, .int .i64 r.fn.keep, .slice r.co r.fn.code.length r.cc, .slice none 0 0, .slice none 0 0, .slice none 0 0] 78))) := Lib.hid (below_2 _ _ _ _ _)
      have hle2 : B ≤ wr.heap.size := by omega
      have hwk : Wk ((wr.alloc (.cells #[.int .i64 r.fn.params, .slice r.lo r.fn.locals.length r.lc, .bool r.fn.result, .int .i64 r.fn.keep, .slice r.co r.fn.code.length r.cc] 47)).alloc (.cells #[.slice A n c, .int .i64 r.fn.params, .slice r.lo r.fn.locals.length r.lc, .bool r.fn.result, .int .i64 r.fn.keep, .slice r.co r.fn.code.length r.cc, .slice none 0 0, .slice none 0 0, .slice none 0 0] 78)) B (wr.heap.size + 1) A n c rs r (.slice none 0 0) (.slice none 0 0) (.slice none 0 0) :=
        ⟨blk_second _ _ _ _ _, (H.out.below (HT.out.tj.below.mono hB)).below (HB2.out.mono hle2), HF.out.below (HB2.out.mono hle2), HW.out, by simp; omega, HOK.out, hokf, by omega⟩
      have HC := Lib.hid (walk_any B (wr.heap.size + 1) n c r.fn.code.length A rs r _ hwk rfl (HCL.out r hmem) (HREF.out r hmem))
      rw [hA] at HC hwk HB2
      subst hA
      clear hwk hmem hokf
      go_wp2_with (go_at_call 31; refine HC.out.mono ?_; rintro e w6 ⟨ok, rfl, hkp, hcase⟩; have HKP := Lib.hid hkp; have HCS := Lib.hid hcase; clear hkp hcase; refine Hid.out ?_)
      have HB6 : Hid (Below wr.heap.size wr w6) := Lib.hid (HB2.out.trans (HKP.out.below (by simp; omega) (by rintro i rfl; omega)))
      rcases HCS.out with ⟨rfl, hnf⟩ | ⟨rfl, l, rv, sv, wv, hsol, hwk, hfn⟩
      · have HNF : Hid (∃ f ∈ fns rs, ¬ Fine (fns rs) f) := Lib.hid ⟨r.fn, List.mem_map.2 ⟨r, List.mem_of_getElem? HX.out, rfl⟩, hnf⟩
        clear hnf x0 x1 x2 x3 x4
        refine Lib.hid ?_
        go_wp2
        go_ret2
        exact ⟨HT.out.tj.below.trans (HB6.out.mono hz), .inl ⟨rfl, HNF.out⟩⟩
      · obtain ⟨ra, sa, m, vs, hrv, hsv, _⟩ := hfn.at_
        subst hrv hsv
        have HT6 := Lib.hid (HT.out.on HB6.out)
        have HSOL := Lib.hid hsol
        have HFN := Lib.hid hfn
        have HWK := Lib.hid hwk
        have e6 : w6.cell? ⟨wr.heap.size + 1, 6, none⟩ = some (.slice (some ⟨ra, 0, none⟩) m m) := hwk.cells.2.2.2.2.2.2.1
        have e7 : w6.cell? ⟨wr.heap.size + 1, 7, none⟩ = some (.slice (some ⟨sa, 0, none⟩) m m) := hwk.cells.2.2.2.2.2.2.2.1
        have t0 : w6.cell? ⟨w.heap.size, 0, none⟩ = some (.slice RA k rc) := HT6.out.tj.blk.cell 0
        have t0a : ∀ o : Obj, (w6.alloc o).cell? ⟨w.heap.size, 0, none⟩ = some (.slice RA k rc) := fun o => (HT6.out.tj.blk.alloc o).cell 0
        have hz6 : wr.heap.size + 1 < w6.heap.size := hwk.blk.lt
        clear hsol hfn hwk x0 x1 x2 x3 x4 HCS
        refine Lib.hid ?_
        go_wp2
        have HOA := Lib.hid (own_al HT6.out.tj.rr (.cells #[(.slice (some ⟨ra, 0, none⟩) m m)] 39))
        have HRd := Lib.hid (one_reads w6 39 [(.slice (some ⟨ra, 0, none⟩) m m)] 1 rfl)
        have HRV : Hid (∀ u ∈ [Value.slice (some ⟨ra, 0, none⟩) m m], u.oneCell' = true) := Lib.hid (fun u hu => by simp at hu; subst hu; rfl)
        have HSV : Hid (∀ u ∈ [Value.slice (some ⟨sa, 0, none⟩) m m], u.oneCell' = true) := Lib.hid (fun u hu => by simp at hu; subst hu; rfl)
        go_region_law (refine step_bools rfl _ _ rfl w.heap.size (.slice RA k rc) k rvs rfl HOA.out (w6.heap.size + 1) (some ⟨w6.heap.size, 0, none⟩) 1 1 [(.slice (some ⟨ra, 0, none⟩) m m)] rfl HRd.out HRV.out (by omega) (by simp; omega) ?_; intro v' w8 hown hgr hor; obtain ⟨RA2, rc2, rfl, l8, l9, f8, ht8, hk8⟩ := HT6.out.tj.pushR _ hown (grown_of_drew hgr); have HT8 := Lib.hid ht8; have HK8 := Lib.hid hk8; clear hown hgr hor ht8 hk8)
        all_goals
          go_wp2
          obtain ⟨W9, hW9⟩ : ∃ W9, W9 = w8.setCell ⟨w.heap.size, 0, none⟩ (.slice RA2 (k + 1) rc2) := ⟨_, rfl⟩
          have HT9 : Hid (TJ w w.heap.size (k + 1) k (rvs ++ [(.slice (some ⟨ra, 0, none⟩) m m)]) svs RA2 rc2 SA sc W9) := Lib.hid (by rw [hW9]; exact HT8.out)
          have HK9 : Hid (Kp w6 W9 (ExT w.heap.size (.slice RA k rc))) := Lib.hid (by rw [hW9]; exact HK8.out)
          have hbg : Blk W9 (wr.heap.size + 1) 78 (WkC (some ⟨b, off, none⟩) n c r (.slice (some ⟨ra, 0, none⟩) m m) (.slice (some ⟨sa, 0, none⟩) m m) wv) := HK9.out.blk HWK.out.blk (by
            rintro (hx | hx)
            · omega
            · exact own_ty HT6.out.tj.rr HWK.out.blk (by decide) hx)
          have g7 : W9.cell? ⟨wr.heap.size + 1, 7, none⟩ = some (.slice (some ⟨sa, 0, none⟩) m m) := hbg.cell 7
          have t1 : W9.cell? ⟨w.heap.size, 1, none⟩ = some (.slice SA k sc) := HT9.out.blk.cell 1
          have t1a : ∀ o : Obj, (W9.alloc o).cell? ⟨w.heap.size, 1, none⟩ = some (.slice SA k sc) := fun o => (HT9.out.blk.alloc o).cell 1
          have hz9 : w6.heap.size ≤ W9.heap.size := HK9.out.size
          have HOS := Lib.hid (own_al HT9.out.ss (.cells #[(.slice (some ⟨sa, 0, none⟩) m m)] 41))
          have HRs := Lib.hid (one_reads W9 41 [(.slice (some ⟨sa, 0, none⟩) m m)] 1 rfl)
          rw [← hW9]
          clear hW9 hbg l8 l9 f8 e6 e7 t0 t0a
          go_region_law (refine step_stks rfl _ _ rfl w.heap.size (.slice SA k sc) k svs rfl HOS.out (W9.heap.size + 1) (some ⟨W9.heap.size, 0, none⟩) 1 1 [(.slice (some ⟨sa, 0, none⟩) m m)] rfl HRs.out HSV.out (by omega) (by simp; omega) ?_; intro v' w10 hown hgr hor; obtain ⟨SA2, sc2, rfl, l10, l11, f10, ht10, hk10⟩ := HT9.out.pushS _ hown (grown_of_drew hgr); have HT10 := Lib.hid ht10; have HK10 := Lib.hid hk10; clear hown hgr hor ht10 hk10)
          all_goals
            have HTN := Lib.hid (HT6.out.next HX.out HSOL.out HFN.out HT9.out HK9.out HT10.out HK10.out)
            go_wp2
            go_roundw
            case rel => exact ⟨k + 1, ls ++ [l], rvs ++ [(.slice (some ⟨ra, 0, none⟩) m m)], svs ++ [(.slice (some ⟨sa, 0, none⟩) m m)], RA2, rc2, SA2, sc2, by omega, by go_num, HTN⟩
            case measure => simp [intOf]; omega
    · obtain rfl : n = k := by omega
      clear hlt hk
      go_wp2
      go_ret2
      exact ⟨HT.out.tj.below, .inr ⟨_, ls, rvs, svs, RA, rc, SA, sc, rfl, HT.out⟩⟩
end Go.Proofs.Ytcgoanfhabjpfaa
