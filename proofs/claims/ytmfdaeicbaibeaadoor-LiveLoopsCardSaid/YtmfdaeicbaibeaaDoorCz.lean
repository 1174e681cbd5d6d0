/-
  Package ir: which graphs are valid.
-/
import Derived.Test.YtmfdaeicbaibeaaDoorCx
import Derived.Test.YtmfdaeicbaibeaaDoorCy
import Derived.Test.YtmfdaeicbaibeaaDoorRwN
namespace Go.Proofs.YtmfdaeicbaibeaaDoor
set_option linter.unusedVariables false
set_option linter.unusedSimpArgs false
open Go.ChangeShapes Go.WideShapes Go.ChangeAt Go.RowKit

theorem nexts_len (n : Nd) : (nextsOf n).length ≤ 2 := by
  unfold nextsOf
  split
  · simp
  · split <;> simp
set_option maxRecDepth 100000 in
set_option maxHeartbeats 3200000 in
theorem breaks_any (B : Nat) (rs : List RG) (ps ks is : List Int) (nodes : List Nd) (fo : Option Addr) (nF cF : Nat) (po ko io no : Option Addr) (nP pc nK kc nI ic nN nc : Nat) (cells keep entry : Int) (res bd : Bool) (op bop d e a b f cell imm : Int) (args : List Int) (nx el : Int) (ao : Option Addr) (nA ac : Nat) (w : World) (HF0 : RdP w B fo nF rs) (hk : Reads w B 1 ko nK (u8c ks)) (hkl : ks.length = nK) (ha : Reads w B 1 ao nA (i64c args)) (hal : args.length = nA) (hnA : nA * 8 ≤ 140737488351232) (hB : B ≤ w.heap.size)
    (hh : bd = false → ∀ g ∈ grs rs, headHolds g false) (ho0 : 0 ≤ op) (ho1 : op ≤ 255) (hnl : nodes.length = nN) :
    Calls Tryd.prog 70 #[.agg #[.slice fo nF cF, .slice po nP pc, .slice ko nK kc, .int .i64 cells, .slice io nI ic, .bool res, .int .i64 keep, .slice no nN nc, .int .i64 entry, .bool bd], .agg #[.int .u8 op, .int .u8 bop, .int .i64 d, .int .i64 e, .int .i64 a, .int .i64 b, .int .i64 f, .int .i64 cell, .int .u64 imm, .slice ao nA ac, .int .i64 nx, .int .i64 el]] w fun ee w' => ee = .returned (.bool (!decide (nodeHolds (grs rs) ⟨ps, ks, cells, is, res, keep, nodes, entry⟩ bd ⟨op, bop, d, e, a, b, f, cell, imm, args, nx, el⟩))) ∧ Below w.heap.size w w' := by
  have HB2 : Hid (Below w.heap.size w ((w.alloc (.cells #[.slice fo nF cF, .slice po nP pc, .slice ko nK kc, .int .i64 cells, .slice io nI ic, .bool res, .int .i64 keep, .slice no nN nc, .int .i64 entry, .bool bd] 120)).alloc (.cells #[.int .u8 op, .int .u8 bop, .int .i64 d, .int .i64 e, .int .i64 a, .int .i64 b, .int .i64 f, .int .i64 cell, .int .u64 imm, .slice ao nA ac, .int .i64 nx, .int .i64 el] 64))) := ((Below.refl _ _).alloc (Nat.le_refl _) _).alloc (by simp) _
  have HCB : Hid (Blk ((w.alloc (.cells #[.slice fo nF cF, .slice po nP pc, .slice ko nK kc, .int .i64 cells, .slice io nI ic, .bool res, .int .i64 keep, .slice no nN nc, .int .i64 entry, .bool bd] 120)).alloc (.cells #[.int .u8 op, .int .u8 bop, .int .i64 d, .int .i64 e, .int .i64 a, .int .i64 b, .int .i64 f, .int .i64 cell, .int .u64 imm, .slice ao nA ac, .int .i64 nx, .int .i64 el] 64)) w.heap.size 120 #[.slice fo nF cF, .slice po nP pc, .slice ko nK kc, .int .i64 cells, .slice io nI ic, .bool res, .int .i64 keep, .slice no nN nc, .int .i64 entry, .bool bd]) := Lib.hid ((Blk.new w 120 #[.slice fo nF cF, .slice po nP pc, .slice ko nK kc, .int .i64 cells, .slice io nI ic, .bool res, .int .i64 keep, .slice no nN nc, .int .i64 entry, .bool bd]).alloc _)
  have HNB : Hid (Blk ((w.alloc (.cells #[.slice fo nF cF, .slice po nP pc, .slice ko nK kc, .int .i64 cells, .slice io nI ic, .bool res, .int .i64 keep, .slice no nN nc, .int .i64 entry, .bool bd] 120)).alloc (.cells #[.int .u8 op, .int .u8 bop, .int .i64 d, .int .i64 e, .int .i64 a, .int .i64 b, .int .i64 f, .int .i64 cell, .int .u64 imm, .slice ao nA ac, .int .i64 nx, .int .i64 el] 64)) (w.heap.size + 1) 64 #[.int .u8 op, .int .u8 bop, .int .i64 d, .int .i64 e, .int .i64 a, .int .i64 b, .int .i64 f, .int .i64 cell, .int .u64 imm, .slice ao nA ac, .int .i64 nx, .int .i64 el]) := Lib.hid (by
    have := Blk.new (w.alloc (.cells #[.slice fo nF cF, .slice po nP pc, .slice ko nK kc, .int .i64 cells, .slice io nI ic, .bool res, .int .i64 keep, .slice no nN nc, .int .i64 entry, .bool bd] 120)) 64 #[.int .u8 op, .int .u8 bop, .int .i64 d, .int .i64 e, .int .i64 a, .int .i64 b, .int .i64 f, .int .i64 cell, .int .u64 imm, .slice ao nA ac, .int .i64 nx, .int .i64 el]
    rwa [show (w.alloc (.cells #[.slice fo nF cF, .slice po nP pc, .slice ko nK kc, .int .i64 cells, .slice io nI ic, .bool res, .int .i64 keep, .slice no nN nc, .int .i64 entry, .bool bd] 120)).heap.size = w.heap.size + 1 by simp] at this)
  have hB2 : B ≤ ((w.alloc (.cells #[.slice fo nF cF, .slice po nP pc, .slice ko nK kc, .int .i64 cells, .slice io nI ic, .bool res, .int .i64 keep, .slice no nN nc, .int .i64 entry, .bool bd] 120)).alloc (.cells #[.int .u8 op, .int .u8 bop, .int .i64 d, .int .i64 e, .int .i64 a, .int .i64 b, .int .i64 f, .int .i64 cell, .int .u64 imm, .slice ao nA ac, .int .i64 nx, .int .i64 el] 64)).heap.size := by simp; omega
  have HU := Lib.hid (uses_any B rs ps ks is nodes fo nF cF po ko io no nP pc nK kc nI ic nN nc cells keep entry res bd op bop d e a b f cell imm args nx el ao nA ac ((w.alloc (.cells #[.slice fo nF cF, .slice po nP pc, .slice ko nK kc, .int .i64 cells, .slice io nI ic, .bool res, .int .i64 keep, .slice no nN nc, .int .i64 entry, .bool bd] 120)).alloc (.cells #[.int .u8 op, .int .u8 bop, .int .i64 d, .int .i64 e, .int .i64 a, .int .i64 b, .int .i64 f, .int .i64 cell, .int .u64 imm, .slice ao nA ac, .int .i64 nx, .int .i64 el] 64)) (HF0.below (HB2.out.mono hB)) (hk.below (HB2.out.mono hB)) hkl (ha.below (HB2.out.mono hB)) hal hnA hB2 hh ho0 ho1)
  have HNL := Lib.hid hnl
  have hmf : ∀ (fn : Fn) (first cap : Array Value) (w : World), (Instr.makeFunc fn first cap).run Tryd.prog w = .ok (.func fn first cap) w := fun _ _ _ _ => rfl
  clear HF0 hk hkl ha hal hh hnl
  by_cases h1 : uses (grs rs) ⟨ps, ks, cells, is, res, keep, nodes, entry⟩ bd ⟨op, bop, d, e, a, b, f, cell, imm, args, nx, el⟩
  rotate_left
  · have H1 : Hid (decide (uses (grs rs) ⟨ps, ks, cells, is, res, keep, nodes, entry⟩ bd ⟨op, bop, d, e, a, b, f, cell, imm, args, nx, el⟩) = false) := Lib.hid (decide_eq_false h1)
    have HD : Hid ((!decide (nodeHolds (grs rs) ⟨ps, ks, cells, is, res, keep, nodes, entry⟩ bd ⟨op, bop, d, e, a, b, f, cell, imm, args, nx, el⟩)) = true) := Lib.hid (by
      rw [decide_eq_false]
      · rfl
      · rintro ⟨h, _⟩; exact h1 h)
    clear h1
    go_enter Tryd.func70, Tryd.ntmps70
    go_wp2_with (first | (go_at_call 82; refine HU.out.mono ?_; rintro ee w3 ⟨rfl, hb3⟩; have HB3 := Lib.hid hb3; clear hb3; rw [H1.out]))
    go_ret
    exact ⟨by rw [HD.out]; rfl, HB2.out.trans (HB3.out.mono (by simp; omega))⟩
  · have H1 : Hid (decide (uses (grs rs) ⟨ps, ks, cells, is, res, keep, nodes, entry⟩ bd ⟨op, bop, d, e, a, b, f, cell, imm, args, nx, el⟩) = true) := Lib.hid (decide_eq_true h1)
    have HD : Hid (((nextsOf ⟨op, bop, d, e, a, b, f, cell, imm, args, nx, el⟩).any fun p => !decide (isOne p nN)) = !decide (nodeHolds (grs rs) ⟨ps, ks, cells, is, res, keep, nodes, entry⟩ bd ⟨op, bop, d, e, a, b, f, cell, imm, args, nx, el⟩)) := Lib.hid (by
      have h2 := any_not (fun p : Int => isOne p nN) (nextsOf ⟨op, bop, d, e, a, b, f, cell, imm, args, nx, el⟩)
      have h3 : decide (nodeHolds (grs rs) ⟨ps, ks, cells, is, res, keep, nodes, entry⟩ bd ⟨op, bop, d, e, a, b, f, cell, imm, args, nx, el⟩) = decide (∀ p ∈ nextsOf ⟨op, bop, d, e, a, b, f, cell, imm, args, nx, el⟩, isOne p nN) := by
        rw [decide_eq_decide]
        unfold nodeHolds
        simp only [HNL.out]
        exact ⟨fun h => h.2, fun h => ⟨h1, h⟩⟩
      rw [h3, ← h2, Bool.not_not])
    have hln := nexts_len ⟨op, bop, d, e, a, b, f, cell, imm, args, nx, el⟩
    clear h1
    obtain ⟨L, hL⟩ : ∃ L, L = nextsOf ⟨op, bop, d, e, a, b, f, cell, imm, args, nx, el⟩ := ⟨_, rfl⟩
    rw [← hL] at HD hln
    have HL := Lib.hid hL
    clear hL
    go_enter Tryd.func70, Tryd.ntmps70
    go_wp2_with (first
      | (go_at_call 82; refine HU.out.mono ?_; rintro ee w3 ⟨rfl, hb3⟩; have HN3 := HNB.out.below hb3 HNB.out.lt; have n0 : w3.cell? ⟨w.heap.size + 1, 0, none⟩ = some (.int .u8 op) := HN3.cell 0; have n1 : w3.cell? ⟨w.heap.size + 1, 1, none⟩ = some (.int .u8 bop) := HN3.cell 1; have n2 : w3.cell? ⟨w.heap.size + 1, 2, none⟩ = some (.int .i64 d) := HN3.cell 2; have n3 : w3.cell? ⟨w.heap.size + 1, 3, none⟩ = some (.int .i64 e) := HN3.cell 3; have n4 : w3.cell? ⟨w.heap.size + 1, 4, none⟩ = some (.int .i64 a) := HN3.cell 4; have n5 : w3.cell? ⟨w.heap.size + 1, 5, none⟩ = some (.int .i64 b) := HN3.cell 5; have n6 : w3.cell? ⟨w.heap.size + 1, 6, none⟩ = some (.int .i64 f) := HN3.cell 6; have n7 : w3.cell? ⟨w.heap.size + 1, 7, none⟩ = some (.int .i64 cell) := HN3.cell 7; have n8 : w3.cell? ⟨w.heap.size + 1, 8, none⟩ = some (.int .u64 imm) := HN3.cell 8; have n9 : w3.cell? ⟨w.heap.size + 1, 9, none⟩ = some (.slice ao nA ac) := HN3.cell 9; have n10 : w3.cell? ⟨w.heap.size + 1, 10, none⟩ = some (.int .i64 nx) := HN3.cell 10; have n11 : w3.cell? ⟨w.heap.size + 1, 11, none⟩ = some (.int .i64 el) := HN3.cell 11; have hz3 : w.heap.size + 1 < w3.heap.size := HN3.lt; have HC3 := Lib.hid (HCB.out.below hb3 HCB.out.lt); have HB3 := Lib.hid hb3; clear hb3 HN3; rw [H1.out])
      | (go_at_call 44; refine (gnext_any op bop d e a b f cell imm args nx el ao nA ac w3 ho0 ho1).mono ?_; rintro ee w4 ⟨A4, c4, rfl, hr4, hc4, hb4⟩; rw [← HL.out] at hr4 ⊢; have HR4 := Lib.hid hr4; have HC4 := Lib.hid (HC3.out.below hb4 HC3.out.lt); have HB4 := Lib.hid hb4; clear hr4 hb4 hc4)
      | (go_at_call 83; refine (contains_breaks1 _ A4 _ c4 L w.heap.size (fun p => !decide (isOne p nN)) w4 HR4.out rfl (by omega) fun p _ => breaks1_any w.heap.size nN nc no p w4 (HC4.out.cell 7)).mono ?_; rintro ee w5 ⟨rfl, rfl⟩))
    go_ret
    exact ⟨by rw [HD.out]; rfl, HB2.out.trans ((HB3.out.trans (HB4.out.mono HB3.out.size)).mono (by simp; omega))⟩

set_option maxRecDepth 100000 in
set_option maxHeartbeats 3200000 in
theorem index_nodes (B : Nat) (A : Option Addr) (n c : Nat) (ns : List RN) (cv : Value) (f : Nd → Bool) (w : World) (h : RdNs w B A n ns) (hnb : n ≤ 140737488351232) (hB : B ≤ w.heap.size)
    (hP : ∀ W, Below w.heap.size w W → ∀ i ∈ ns, Calls Tryd.prog 70 #[cv, .agg #[.int .u8 i.nd.op, .int .u8 i.nd.bop, .int .i64 i.nd.d, .int .i64 i.nd.e, .int .i64 i.nd.a, .int .i64 i.nd.b, .int .i64 i.nd.f, .int .i64 i.nd.cell, .int .u64 i.nd.imm, .slice i.ao i.nd.args.length i.ac, .int .i64 i.nd.next, .int .i64 i.nd.els]] W fun e w' => e = .returned (.bool (f i.nd)) ∧ Below W.heap.size W w') :
    Calls Tryd.prog 80 #[.slice A n c, .func (.func 70) #[cv] #[]] w fun e w' => e = .returned (.int .i64 (ixOf f (nds ns))) ∧ Below w.heap.size w w' := by
  have H := Lib.hid h
  have HP := Lib.hid hP
  clear h hP
  go_enter Tryd.func80, Tryd.ntmps80
  go_wp2
  go_loopw [8] (fun i wr => ∃ k : Nat, k ≤ n ∧ i = .int .i64 k ∧ Hid (∀ y ∈ (nds ns).take k, f y = false) ∧ Hid (Below w.heap.size w wr)) (fun i _ => n - (intOf i).toNat)
  case atStart => exact ⟨0, Nat.zero_le _, rfl, Lib.hid (by simp), Below.refl _ _⟩
  case round =>
    obtain ⟨k, hk, rfl, HQ, HW⟩ := hrel
    by_cases hlt : k < n
    · obtain ⟨b, off, i, rfl, hb, HX, HRN, HWN, x0, x1, x2, x3, x4, x5, x6, x7, x8, x9, x10, x11⟩ := (H.out.below (HW.out.mono hB)).nd hlt
      have HXN : Hid ((nds ns)[k]? = some i.nd) := Lib.hid (by unfold nds; rw [List.getElem?_map, HX.out]; rfl)
      have HC := Lib.hid (HP.out wr HW.out i (List.mem_of_getElem? HX.out))
      have hz := HW.out.size
      have hbr : b < wr.heap.size := by omega
      cases hf : f i.nd
      · have HQ2 := Lib.hid (take_mem_snoc HXN.out hf HQ.out)
        go_wp2_with (first | (go_at_call 70; refine HC.out.mono ?_; rintro e w2 ⟨rfl, hb2⟩; have HB2 := Lib.hid hb2; clear hb2; rw [hf]))
        go_roundw
        case rel => exact ⟨k + 1, by omega, by go_num, HQ2, HW.out.trans (HB2.out.mono hz)⟩
        case measure => simp [intOf]; omega
      · have HQ2 := Lib.hid (ix_at HXN.out hf HQ.out)
        go_wp2_with (first | (go_at_call 70; refine HC.out.mono ?_; rintro e w2 ⟨rfl, hb2⟩; have HB2 := Lib.hid hb2; clear hb2; rw [hf]))
        go_ret
        exact ⟨by rw [HQ2.out]; rfl, HW.out.trans (HB2.out.mono hz)⟩
    · obtain rfl : n = k := by omega
      have HQ2 := Lib.hid (ix_none (f := f) (l := nds ns) (by have := HQ.out; rwa [List.take_of_length_le (by rw [length_nds, H.out.len]; omega)] at this))
      go_wp2
      go_ret
      exact ⟨by rw [HQ2.out]; rfl, HW.out⟩
theorem contains_nodes (B : Nat) (A : Option Addr) (n c : Nat) (ns : List RN) (cv : Value) (f : Nd → Bool) (w : World) (h : RdNs w B A n ns) (hnb : n ≤ 140737488351232) (hB : B ≤ w.heap.size)
    (hP : ∀ W, Below w.heap.size w W → ∀ i ∈ ns, Calls Tryd.prog 70 #[cv, .agg #[.int .u8 i.nd.op, .int .u8 i.nd.bop, .int .i64 i.nd.d, .int .i64 i.nd.e, .int .i64 i.nd.a, .int .i64 i.nd.b, .int .i64 i.nd.f, .int .i64 i.nd.cell, .int .u64 i.nd.imm, .slice i.ao i.nd.args.length i.ac, .int .i64 i.nd.next, .int .i64 i.nd.els]] W fun e w' => e = .returned (.bool (f i.nd)) ∧ Below W.heap.size W w') :
    Calls Tryd.prog 69 #[.slice A n c, .func (.func 70) #[cv] #[]] w fun e w' => e = .returned (.bool ((nds ns).any f)) ∧ Below w.heap.size w w' := by
  have HI := Lib.hid (index_nodes B A n c ns cv f w h hnb hB hP)
  have HD := Lib.hid (ix_nonneg f (nds ns))
  clear h hP
  obtain ⟨z, hz⟩ : ∃ z, z = ixOf f (nds ns) := ⟨_, rfl⟩
  rw [← hz] at HI HD
  clear hz
  go_enter Tryd.func69, Tryd.ntmps69
  go_wp2_with (first | (go_at_call 80; refine HI.out.mono ?_; rintro e w2 ⟨rfl, hb2⟩; have HB2 := Lib.hid hb2; clear hb2))
  go_ret
  exact ⟨by rw [← HD.out]; rfl, HB2.out⟩
end Go.Proofs.YtmfdaeicbaibeaaDoor
