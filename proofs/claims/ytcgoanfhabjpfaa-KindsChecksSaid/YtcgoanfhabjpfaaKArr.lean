/-
  Package kinds: arrive.
-/
import Derived.Test.YtcgoanfhabjpfaaKWs
import Derived.Test.YtcgoanfhabjpfaaKBeh
import Derived.Deep.RegionLaw
import Derived.Deep.DeepCutAuto
namespace Go.Proofs.Ytcgoanfhabjpfaa
set_option linter.unusedVariables false
open Go.ChangeShapes Go.WideShapes Go.ChangeAt Go.RowKit

theorem Try.info3 : (Try.prog.info? 3).map (fun i => (i.zero, i.size, i.bytes)) = some (some (.int .i64 0), 1, 8) := by kernel_rfl
theorem app_int {w : World} {ops : Array Oper} {rest : List Oper} {o : Oper} {a : Act} {Q : Exit → Act → World → Prop} (hgd : o.guard = none) (s x : Operand)
    (ho : o.op = .call { callee := .builtin .append, args := #[s, x], argTypes := #[76, 76] }) (base : Nat)
    (v : Value) (n : Nat) (xs : List Value) (hs : a.eval s = v) (hown : w.ownsRow base 3 1 v n xs)
    (B : Nat) (A : Option Addr) (m c : Nat) (news : List Value) (hx : a.eval x = .slice A m c) (hr : Reads w B 1 A m news) (h1 : ∀ u ∈ news, u.oneCell' = true)
    (hbytes : (n + m) * 8 ≤ 140737488355328) (hbase : base ≤ w.heap.size)
    (h : ∀ v' w', w'.ownsRow base 3 1 v' (n + m) (xs ++ news) → w.grownBy w' v.ownBlock → (v'.ownBlock = v.ownBlock ∨ v'.ownBlock = some w.heap.size) → wpList Try.prog ops Q rest (a.put o.dst v') w') : wpList Try.prog ops Q (o :: rest) a w := by
  obtain ⟨i0, hi, hz0, hz1, hz2⟩ := info_parts Try.info3
  exact wpList_append_any w hgd s x _ ho base 3 i0 (.int .i64 0) 1 8 Try.underlying76 hi hz0 hz1 hz2 rfl (by decide) v n xs hs hown B A m c news hx hr h1 (by unfold maxLen; omega) hbytes hbase h

def ArrYes (w : World) (B g ra sa : Nat) (A : Option Addr) (n c : Nat) (rs : List Raw) (r : Raw) (m : Nat) (l : List (Option Stk)) (wl : List Nat) (WA : Option Addr) (wk wcap b : Nat) (s : Stk) (w' : World) : Prop :=
  ∃ l' wl' vs' WA' wk' wcap', WS w' B g ra sa A n c rs r m l' wl' vs' WA' wk' wcap' ∧ ((Value.slice WA' wk' wcap').ownBlock = (Value.slice WA wk wcap).ownBlock ∨ ∃ j, (Value.slice WA' wk' wcap').ownBlock = some j ∧ w.heap.size ≤ j) ∧
    ((l[b]? = some (some s) ∧ l' = l ∧ wl' = wl) ∨ (l[b]? = some none ∧ l' = l.set b (some s) ∧ wl' = wl ++ [b]))
def ArrPost (w : World) (B g ra sa : Nat) (A : Option Addr) (n c : Nat) (rs : List Raw) (r : Raw) (m : Nat) (l : List (Option Stk)) (wl : List Nat) (WA : Option Addr) (wk wcap b : Nat) (s : Stk) (e : Ending) (w' : World) : Prop :=
  ∃ ok, e = .returned (.bool ok) ∧ Kp w w' (Ex g ra sa (.slice WA wk wcap)) ∧
    ((ok = false ∧ (m ≤ b ∨ ∃ s2, l[b]? = some (some s2) ∧ s2 ≠ s)) ∨ (ok = true ∧ ArrYes w B g ra sa A n c rs r m l wl WA wk wcap b s w'))

set_option maxRecDepth 100000 in
set_option maxHeartbeats 3200000 in
theorem arrive_any (B g ra sa n c m wk wcap b sn sc B0 : Nat) (A WA SA : Option Addr) (rs : List Raw) (r : Raw) (l : List (Option Stk)) (wl : List Nat) (vs : List Value) (s : Stk) (w : World)
    (h : WS w B g ra sa A n c rs r m l wl vs WA wk wcap) (hs : w.ownsRow B0 57 1 (.slice SA sn sc) sn (u8c s)) (hsn : sn ≤ 50000) (hall : ∀ (j : Nat) s2, l[j]? = some (some s2) → s2.length ≤ 50000) (hwk : wk ≤ 100000) (hb : b ≤ 1000000) :
    Calls Try.prog 46 #[.pointer (some ⟨g, 0, none⟩), .int .i64 b, .slice SA sn sc] w (ArrPost w B g ra sa A n c rs r m l wl WA wk wcap b s) := by
  obtain ⟨d0, d1, d2, d3, d4, d5, d6, d7, d8⟩ := h.wkr.cells
  rw [h.clen] at d5
  have hg := h.wkr.blk.lt
  have hm := h.small
  have hsl : s.length = sn := by have := hs.1; rw [length_u8c] at this; omega
  have HSL := Lib.hid hsl
  have H := Lib.hid h
  have HS := Lib.hid hs
  have HLN : Hid (l.length = m) := Lib.hid h.len
  have hra := h.reached.lt
  have hsa := h.stacks.lt
  clear hs hsl
  by_cases c1 : m ≤ b
  · have g1 : decide (m ≤ b) = true := by simpa using c1
    clear h d0 d1 d2 d3 d4 d6 d7 d8
    go_enter Try.func46, Try.ntmps46
    go_wp2
    go_ret
    exact ⟨false, rfl, Kp.refl _ _, .inl ⟨rfl, .inl c1⟩⟩
  have g1 : decide (m ≤ b) = false := by simpa using c1
  have hbm : b < m := by omega
  obtain ⟨x, hx⟩ : ∃ x, l[b]? = some x := ⟨l[b]'(by rw [h.len]; omega), List.getElem?_eq_getElem _⟩
  obtain ⟨a, q, k, hv, hq, ho⟩ := h.vat b x hx
  have e0 : w.cell? ⟨ra, b, none⟩ = some (.bool x.isSome) := by
    rw [h.reached.cell]
    show (reachC l).toArray[b]? = _
    unfold reachC
    simp [hx]
  have e1 : w.cell? ⟨sa, b, none⟩ = some (.slice a q k) := by
    rw [h.stacks.cell]
    simpa using hv
  cases x with
  | some s2 =>
    simp only [Option.isSome_some, Option.getD_some] at e0 hq ho
    have hq2 : q ≤ 50000 := by rw [hq]; exact hall b s2 hx
    have HO := Lib.hid ho
    have HX := Lib.hid hx
    obtain ⟨eq, HEQ⟩ : ∃ eq, Hid (decide (s2 = s) = eq) := ⟨_, Lib.hid rfl⟩
    have HC := Lib.hid (equal_is w.heap.size w.heap.size a SA q sn k sc s2 s eq w (Reads.of_own HO.out) (Reads.of_own HS.out) (Nat.le_refl _) (Nat.le_refl _) (by omega) (by omega) HEQ.out)
    clear h hq ho hx hv d0 d1 d2 d3 d4 d8 c1
    go_enter Try.func46, Try.ntmps46
    go_wp2_with (go_at_call 54; refine HC.out.mono ?_; rintro e w2 ⟨rfl, hb2⟩; have HB2 := Lib.hid hb2; clear hb2)
    go_ret
    refine ⟨eq, rfl, Kp.of_below HB2.out _, ?_⟩
    cases eq with
    | false => exact .inl ⟨rfl, .inr ⟨s2, HX.out, by have := HEQ.out; simpa using this⟩⟩
    | true =>
      have he : s2 = s := by have := HEQ.out; simpa using this
      subst he
      exact .inr ⟨rfl, l, wl, vs, WA, wk, wcap, H.out.below HB2.out, .inl rfl, .inl ⟨HX.out, rfl, rfl⟩⟩
  | none =>
    simp only [Option.isSome_none] at e0
    have HX := Lib.hid hx
    have f0 := h.reached.frozen b
    have hrs : ra ≠ sa := Blk.ne_ h.reached h.stacks (by decide)
    have hrg : ra ≠ g := Blk.ne_ h.reached h.wkr.blk (by decide)
    have hsg : sa ≠ g := Blk.ne_ h.stacks h.wkr.blk (by decide)
    obtain ⟨W1, hW1⟩ : ∃ W1, W1 = w.setCell ⟨ra, b, none⟩ (.bool true) := ⟨_, rfl⟩
    have HW1 := Lib.hid hW1
    have hz1 : W1.heap.size = w.heap.size := by rw [hW1]; simp [World.setCell]
    have HZ1 := Lib.hid hz1
    have HG1 : Hid (Blk W1 g 78 (WkC A n c r (.slice (some ⟨ra, 0, none⟩) m m) (.slice (some ⟨sa, 0, none⟩) m m) (.slice WA wk wcap))) := Lib.hid (by rw [hW1]; exact h.wkr.blk.far (p := ⟨ra, b, none⟩) hrg.symm _)
    have HS1 : Hid (Blk W1 sa 43 vs.toArray) := Lib.hid (by rw [hW1]; exact h.stacks.far (p := ⟨ra, b, none⟩) hrs.symm _)
    have HO1 : Hid (W1.ownsRow B0 57 1 (.slice SA sn sc) sn (u8c s)) := Lib.hid (by rw [hW1]; exact own_far HS.out h.reached (by decide) b _)
    have hvl := h.vlen
    clear h hq ho hx hv d0 d1 d2 d3 d4 d8 c1 hz1
    go_enter Try.func46, Try.ntmps46
    go_upto_region 6 with fail
    rw [← HW1.out]
    have y7 : W1.cell? ⟨g, 7, none⟩ = some (.slice (some ⟨sa, 0, none⟩) m m) := HG1.out.cell 7
    have y8 : W1.cell? ⟨sa, b, none⟩ = some (.slice a q k) := by rw [HW1.out]; exact (World.cell?_setCell_other w _ ⟨sa, b, none⟩ _ (by intro e; injection e with e; exact hrs e)).trans e1
    have y9 : W1.frozen? ⟨sa, b, none⟩ = false := HS1.out.frozen b
    have HBW : Hid (∀ w2, Below W1.drew.heap.size W1.drew w2 → Below w.heap.size W1 w2) := Lib.hid fun w2 h2 => by
      have h3 : Below W1.heap.size W1 w2 := ((Below.refl _ _).drew).trans h2
      rw [HZ1.out] at h3
      exact h3
    have HOW : Hid (∀ (w2 : World) v xs q, w2.ownsRow W1.drew.heap.size 57 1 v q xs → w2.ownsRow w.heap.size 57 1 v q xs) := Lib.hid fun w2 v xs q h2 => by
      have h3 : w2.ownsRow W1.heap.size 57 1 v q xs := h2
      rw [HZ1.out] at h3
      exact h3
    clear d5 d6 d7 e0 e1 f0 hW1
    go_cut [] (fun wx => Hid (∃ vs', WS wx B g ra sa A n c rs r m (l.set b (some s)) wl vs' WA wk wcap ∧ Kp w wx (fun i => i = ra ∨ i = sa)))
    case first =>
      go_region_law (first
        | (go_simp; go_at_call 55; refine (clone_any B0 sn (.slice SA sn sc) s W1.drew HO1.out (by omega)).mono ?_; rintro e w2 ⟨A2, q2, c2, rfl, hq2, ho2, hb2⟩; have HQ2 := Lib.hid hq2; have hb2' := HBW.out w2 hb2; have z7 : w2.cell? ⟨g, 7, none⟩ = some (.slice (some ⟨sa, 0, none⟩) m m) := (hb2'.cell (p := ⟨g, 7, none⟩) hg).trans y7; have z8 : w2.cell? ⟨sa, b, none⟩ = some (.slice a q k) := (hb2'.cell (p := ⟨sa, b, none⟩) hsa).trans y8; have z9 : w2.frozen? ⟨sa, b, none⟩ = false := (hb2'.frozen (p := ⟨sa, b, none⟩) hsa).trans y9; have HO2 := Lib.hid (HOW.out _ _ _ _ ho2); have HB2 := Lib.hid hb2'; clear hq2 ho2 hb2 hb2'))
      all_goals
        go_wp2
        go_meet
      all_goals
        exact Lib.hid ⟨_, H.out.put HX.out (by rw [← HW1.out]; exact HB2.out) HQ2.out HO2.out⟩
    case rest =>
      obtain ⟨vs', hw, hkp⟩ := hcut.out
      have hgc := hw.wkr.blk.lt
      have v8 : wc.cell? ⟨g, 8, none⟩ = some (.slice WA wk wcap) := hw.wkr.cells.2.2.2.2.2.2.2.2
      have hle : B ≤ wc.heap.size := hw.wkr.le
      have HW := Lib.hid hw
      have HKP := Lib.hid hkp
      have HWA := Lib.hid (own_al hw.wait (.cells #[.int .i64 (b : Int)] 3))
      have HRD := Lib.hid (one_reads wc 3 [.int .i64 (b : Int)] 1 rfl)
      clear hw hkp hcut
      go_wp2_with (at_builtin; refine app_int rfl _ _ rfl B (.slice WA wk wcap) wk (intc wl) rfl HWA.out (wc.heap.size + 1) (some ⟨wc.heap.size, 0, none⟩) 1 1 [.int .i64 (b : Int)] rfl HRD.out (by simp [Value.oneCell']) (by omega) (by simp; omega) ?_; intro v' w8 hown hgr hor; obtain ⟨WA8, c8, rfl, p8, f8, hw8, hk8, hor8⟩ := HW.out.push _ hown hgr hor; have HW8 := Lib.hid hw8; have HK8 := Lib.hid hk8; have HOR := Lib.hid hor8; clear hown hgr hor hw8 hk8 hor8; refine Hid.out ?_)
      clear v8
      refine Lib.hid ?_
      go_wp2
      go_ret
      refine ⟨true, rfl, (HKP.out.wider (fun i _ hx => hx.elim (fun e => .inr (.inl e)) fun e => .inr (.inr (.inl e)))).trans HK8.out (fun _ _ h => h), .inr ⟨rfl, _, _, vs', WA8, wk + 1, c8, HW8.out, ?_, .inr ⟨HX.out, rfl, rfl⟩⟩⟩
      rcases HOR.out with ho | ⟨j, hj, hjs⟩
      · exact .inl ho
      · exact .inr ⟨j, hj, by have := HKP.out.size; omega⟩
end Go.Proofs.Ytcgoanfhabjpfaa
