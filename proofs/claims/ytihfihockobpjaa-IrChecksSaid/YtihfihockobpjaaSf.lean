/-
  Nodes and graphs compared by package ir.
-/
import Derived.Test.YtihfihockobpjaaSo
import Derived.Test.YtihfihockobpjaaCg
namespace Go.Proofs.Ytihfihockobpjaa
set_option linter.unusedVariables false
set_option linter.unusedSimpArgs false
open Go.ChangeShapes Go.WideShapes Go.ChangeAt Go.RowKit

theorem take_one {α : Type} {l : List α} {k : Nat} {x : α} (h : l[k]? = some x) : l.take (k + 1) = l.take k ++ [x] := by
  rw [List.take_add_one, h]; rfl
theorem gr_ext {r s : Gr} (c0 : r.params = s.params) (c1 : r.kinds = s.kinds) (c2 : r.cells = s.cells) (c3 : r.init = s.init) (c4 : r.result = s.result) (c5 : r.keep = s.keep) (c6 : r.nodes = s.nodes) (c7 : r.entry = s.entry) : r = s := by
  cases r; cases s; simp only [Gr.mk.injEq]; exact ⟨c0, c1, c2, c3, c4, c5, c6, c7⟩

theorem csn_rn (B : Nat) (i j : RN) (w : World) (h : RdN w B i) (h' : RdN w B j) (hw : WfN i.nd) (hw' : WfN j.nd) (hB : B ≤ w.heap.size) :
    Calls Try.prog 44 #[.agg #[.int .u8 i.nd.op, .int .u8 i.nd.bop, .int .i64 i.nd.d, .int .i64 i.nd.e, .int .i64 i.nd.a, .int .i64 i.nd.b, .int .i64 i.nd.f, .int .i64 i.nd.cell, .int .u64 i.nd.imm, .slice i.ao i.nd.args.length i.ac, .int .i64 i.nd.next, .int .i64 i.nd.els], .agg #[.int .u8 j.nd.op, .int .u8 j.nd.bop, .int .i64 j.nd.d, .int .i64 j.nd.e, .int .i64 j.nd.a, .int .i64 j.nd.b, .int .i64 j.nd.f, .int .i64 j.nd.cell, .int .u64 j.nd.imm, .slice j.ao j.nd.args.length j.ac, .int .i64 j.nd.next, .int .i64 j.nd.els]] w fun e w' => e = .returned (.bool (decide (i.nd = j.nd))) ∧ Below w.heap.size w w' :=
  csn_any B _ _ _ _ _ _ _ _ _ _ _ _ _ _ _ _ _ _ _ _ _ _ _ _ _ _ _ _ _ _ w h.args rfl (by have := hw.al; omega) h'.args rfl (by have := hw'.al; omega) hB

set_option maxRecDepth 100000 in
set_option maxHeartbeats 6400000 in
theorem eqn_any (B : Nat) (ao bo : Option Addr) (n m c d : Nat) (ra rb : List RN) (w : World) (ha : RdNs w B ao n ra) (hb : RdNs w B bo m rb) (hB : B ≤ w.heap.size) (s1 : n ≤ 140737488351232) (s2 : m ≤ 140737488351232) :
    Calls Try.prog 43 #[.slice ao n c, .slice bo m d, .func (.func 44) #[] #[]] w fun e w' => e = .returned (.bool (decide (nds ra = nds rb))) ∧ Below w.heap.size w w' := by
  have HA := Lib.hid ha
  have HB := Lib.hid hb
  have HN : Hid ((nds ra).length = n) := Lib.hid (by rw [length_nds, ha.len])
  have HM : Hid ((nds rb).length = m) := Lib.hid (by rw [length_nds, hb.len])
  clear ha hb
  by_cases hgt : n ≠ m
  · have hr : decide (nds ra = nds rb) = false := eq_len (by rw [HN.out, HM.out]; exact hgt)
    have HR := Lib.hid hr
    clear hr
    go_enter Try.func43, Try.ntmps43
    go_wp2
    go_ret
    exact ⟨by rw [HR.out]; rfl, Below.refl _ _⟩
  · obtain rfl : n = m := by omega
    clear hgt
    go_enter Try.func43, Try.ntmps43
    go_wp2
    go_loopw [17] (fun i wr => ∃ k : Nat, k ≤ n ∧ i = .int .i64 k ∧ Hid ((nds rb).take k = (nds ra).take k) ∧ Hid (Below w.heap.size w wr)) (fun i _ => n - (intOf i).toNat)
    case atStart => exact ⟨0, Nat.zero_le _, rfl, rfl, Below.refl _ _⟩
    case round =>
      obtain ⟨k, hk, rfl, HP, HW⟩ := hrel
      have hz := HW.out.size
      by_cases hlt : k < n
      · obtain ⟨b1, o1, r, rfl, hbk1, HX, HRF, HWF, x0, x1, x2, x3, x4, x5, x6, x7, x8, x9, x10, x11⟩ := (HA.out.below (HW.out.mono hB)).nd hlt
        obtain ⟨b2, o2, s, rfl, hbk2, HY, HRG, HWG, y0, y1, y2, y3, y4, y5, y6, y7, y8, y9, y10, y11⟩ := (HB.out.below (HW.out.mono hB)).nd hlt
        have hbr1 : b1 < wr.heap.size := by omega
        have hbr2 : b2 < wr.heap.size := by omega
        have HXK : Hid ((nds ra)[k]? = some r.nd) := Lib.hid (by unfold nds; rw [List.getElem?_map, HX.out]; rfl)
        have HYK : Hid ((nds rb)[k]? = some s.nd) := Lib.hid (by unfold nds; rw [List.getElem?_map, HY.out]; rfl)
        have HW2 := Lib.hid ((HW.out.alloc hz (.cells #[.int .u8 r.nd.op, .int .u8 r.nd.bop, .int .i64 r.nd.d, .int .i64 r.nd.e, .int .i64 r.nd.a, .int .i64 r.nd.b, .int .i64 r.nd.f, .int .i64 r.nd.cell, .int .u64 r.nd.imm, .slice r.ao r.nd.args.length r.ac, .int .i64 r.nd.next, .int .i64 r.nd.els] 38)).alloc (by simp; omega) (.cells #[.int .u8 s.nd.op, .int .u8 s.nd.bop, .int .i64 s.nd.d, .int .i64 s.nd.e, .int .i64 s.nd.a, .int .i64 s.nd.b, .int .i64 s.nd.f, .int .i64 s.nd.cell, .int .u64 s.nd.imm, .slice s.ao s.nd.args.length s.ac, .int .i64 s.nd.next, .int .i64 s.nd.els] 38))
        have hk2 : ∀ p : Addr, p.block < B → ((wr.alloc (.cells #[.int .u8 r.nd.op, .int .u8 r.nd.bop, .int .i64 r.nd.d, .int .i64 r.nd.e, .int .i64 r.nd.a, .int .i64 r.nd.b, .int .i64 r.nd.f, .int .i64 r.nd.cell, .int .u64 r.nd.imm, .slice r.ao r.nd.args.length r.ac, .int .i64 r.nd.next, .int .i64 r.nd.els] 38)).alloc (.cells #[.int .u8 s.nd.op, .int .u8 s.nd.bop, .int .i64 s.nd.d, .int .i64 s.nd.e, .int .i64 s.nd.a, .int .i64 s.nd.b, .int .i64 s.nd.f, .int .i64 s.nd.cell, .int .u64 s.nd.imm, .slice s.ao s.nd.args.length s.ac, .int .i64 s.nd.next, .int .i64 s.nd.els] 38)).cell? p = wr.cell? p := fun p hp => (World.cell?_alloc_lt _ _ p (by simp; omega)).trans (World.cell?_alloc_lt _ _ p (by omega))
        have HF2 := Lib.hid (HRF.out.keep hk2)
        have HG2 := Lib.hid (HRG.out.keep hk2)
        clear hk2
        by_cases hxy : r.nd = s.nd
        · have HD : Hid (decide (r.nd = s.nd) = true) := Lib.hid (by simpa using hxy)
          have HT1 : Hid ((nds rb).take (k + 1) = (nds ra).take (k + 1)) := Lib.hid (by rw [take_one HXK.out, take_one HYK.out, HP.out, hxy])
          clear hxy
          go_wp2_with (go_at_call 44; refine (csn_rn B r s _ HF2.out HG2.out HWF.out HWG.out (by simp; omega)).mono ?_; rintro e w2 ⟨rfl, hb2⟩; rw [HD.out]; refine Hid.out ?_)
          have HB3 := Lib.hid (HW2.out.trans (hb2.mono (by simp; omega)))
          clear hb2
          refine Lib.hid ?_
          go_wp2
          go_roundw
          case rel => exact ⟨k + 1, by omega, by go_num, HT1, HB3⟩
          case measure => simp [intOf]; omega
        · have HD : Hid (decide (r.nd = s.nd) = false) := Lib.hid (by simpa using hxy)
          have HR : Hid (decide (nds ra = nds rb) = false) := Lib.hid (eq_at HXK.out HYK.out hxy)
          clear hxy
          go_wp2_with (go_at_call 44; refine (csn_rn B r s _ HF2.out HG2.out HWF.out HWG.out (by simp; omega)).mono ?_; rintro e w2 ⟨rfl, hb2⟩; rw [HD.out]; refine Hid.out ?_)
          have HB3 := Lib.hid (HW2.out.trans (hb2.mono (by simp; omega)))
          clear hb2
          refine Lib.hid ?_
          go_wp2
          go_ret
          exact ⟨by rw [HR.out]; rfl, HB3.out⟩
      · obtain rfl : n = k := by omega
        have hr : decide (nds ra = nds rb) = true := by
          have h := HP.out
          rw [List.take_of_length_le (by rw [HM.out]; omega), List.take_of_length_le (by rw [HN.out]; omega)] at h
          rw [h]; simp
        have HR := Lib.hid hr
        clear hr
        go_wp2
        go_ret
        exact ⟨by rw [HR.out]; rfl, HW.out⟩
end Go.Proofs.Ytihfihockobpjaa
