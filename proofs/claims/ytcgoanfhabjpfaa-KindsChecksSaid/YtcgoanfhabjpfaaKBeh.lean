/-
  Package kinds: behind.
-/
import Derived.Test.YtcgoanfhabjpfaaKTakB
import Derived.Test.YtcgoanfhabjpfaaKSl
import Derived.Deep.RegionLaw
import Derived.Deep.DeepCutAuto
namespace Go.Proofs.Ytcgoanfhabjpfaa
set_option linter.unusedVariables false
open Go.ChangeShapes Go.WideShapes Go.ChangeAt Go.RowKit

/-- what behind answers -/
def BehPost (fs : List Fn) (f : Fn) (i : Ins) (s : Stk) (w : World) (e : Ending) (w' : World) : Prop :=
  ∃ A m c ok, e = .returned (.tuple #[.slice A m c, .bool ok]) ∧ Below w.heap.size w w' ∧
    ((ok = false ∧ afterK fs f i s = none) ∨ (ok = true ∧ ∃ s', afterK fs f i s = some s' ∧ s'.length = m ∧ w'.ownsRow w.heap.size 57 1 (.slice A m c) m (u8c s')))
theorem equal_is (B B' : Nat) (A A' : Option Addr) (n m c d : Nat) (xs ys : List Int) (b : Bool) (w : World) (hx : Reads w B 1 A n (u8c xs)) (hy : Reads w B' 1 A' m (u8c ys)) (hB : B ≤ w.heap.size) (hB' : B' ≤ w.heap.size) (hn : n ≤ 1048576) (hm : m ≤ 1048576) (hb : decide (xs = ys) = b) :
    Calls Try.prog 54 #[.slice A n c, .slice A' m d] w fun e w' => e = .returned (.bool b) ∧ Below w.heap.size w w' := by
  rw [← hb]; exact equal_any B B' A A' n m c d xs ys w hx hy hB hB' hn hm
theorem cut_reads {w : World} {B n k cap : Nat} {A : Option Addr} {xs : List Int} (h : Reads w B 1 A n (u8c xs)) (hk : k ≤ n) (hc : n ≤ cap) : Reads w B 1 (if cap = k then A else A.map (·.add k)) (n - k) (u8c (xs.drop k)) := by
  have := Reads.cut h hk hc
  rw [Nat.mul_one] at this
  unfold u8c at this ⊢
  rw [List.map_drop]
  exact this
theorem takesK_len {fs : List Fn} {f : Fn} {i : Ins} {t : Int} (h : okP fs = true) : (takesK fs f i t).length ≤ 255 := by
  unfold takesK
  split
  · simp
  split
  · simp
  split
  · simp
  split
  · simp
  split
  · unfold parK
    split
    · rename_i g hg
      have := okF_par ((okP_iff.1 h).2.2 g (List.mem_of_getElem? hg))
      rw [List.length_take]; omega
    · simp
  split
  · have := resOf_len f; omega
  split
  · simp
  split <;> simp
set_option maxRecDepth 100000 in
set_option maxHeartbeats 1000000 in
theorem behind_any (B g n c : Nat) (A : Option Addr) (rs : List Raw) (r : Raw) (rv sv wv : Value) (i : Ins) (s : Stk) (SA : Option Addr) (sn sc : Nat) (w : World) (h : Wk w B g A n c rs r rv sv wv) (hin : insRef (fns rs) r.fn i = true) (h0 : 0 ≤ i.arg)
    (hs : Reads w w.heap.size 1 SA sn (u8c s)) (hsc : sn ≤ sc) (hsn : sn ≤ 50000) :
    Calls Try.prog 56 #[.pointer (some ⟨g, 0, none⟩), .agg #[.int .u8 i.op, .int .i64 i.arg, .int .u64 i.imm], .slice SA sn sc] w (BehPost (fns rs) r.fn i s w) := by
  have hsl : s.length = sn := by have := hs.1; rw [length_u8c] at this; omega
  have HSL := Lib.hid hsl
  have H1 : Hid (∀ o : Obj, Wk (w.alloc o) B g A n c rs r rv sv wv) := Lib.hid fun o => h.alloc o
  have HS1 : Hid (∀ o : Obj, Reads (w.alloc o) w.heap.size 1 SA sn (u8c s)) := Lib.hid fun o => hs.alloc (Nat.le_refl _) o
  obtain ⟨t, HT⟩ : ∃ t, Hid (t = takesK (fns rs) r.fn i (topK s)) := ⟨_, Lib.hid rfl⟩
  obtain ⟨lv, HL⟩ : ∃ t, Hid (t = leavesK (fns rs) r.fn i (topK s)) := ⟨_, Lib.hid rfl⟩
  obtain ⟨k, HK⟩ : ∃ k, Hid (k = t.length) := ⟨_, Lib.hid rfl⟩
  have HAF : Hid (afterK (fns rs) r.fn i s = if k ≤ sn ∧ s.drop (sn - k) = t ∧ ¬(i.op = 24 ∧ k < sn) then some (s.take (sn - k) ++ lv) else none) := Lib.hid (by
    unfold afterK; rw [← HT.out, ← HL.out, ← HK.out, hsl])
  have HTK : Hid (∀ o : Obj, Calls Try.prog 61 #[.pointer (some ⟨g, 0, none⟩), .agg #[.int .u8 i.op, .int .i64 i.arg, .int .u64 i.imm], .int .u8 (topK s)] (w.alloc o) fun e w' => ∃ A2 c2, e = .returned (.slice A2 k c2) ∧ Reads w' w'.heap.size 1 A2 k (u8c t) ∧ Below (w.heap.size + 1) (w.alloc o) w') := Lib.hid fun o => by
    refine (takes_any B g n c A rs r rv sv wv i (topK s) _ (H1.out o) hin h0).mono ?_
    rintro e w' ⟨A2, m2, c2, rfl, hm2, _, hr2, hb2⟩
    rw [← HT.out] at hm2 hr2
    rw [← HK.out] at hm2
    subst hm2
    exact ⟨A2, c2, rfl, hr2, by rw [World.size_alloc] at hb2; exact hb2⟩
  have HLV : Hid (∀ W, Wk W B g A n c rs r rv sv wv → Calls Try.prog 63 #[.pointer (some ⟨g, 0, none⟩), .agg #[.int .u8 i.op, .int .i64 i.arg, .int .u64 i.imm], .int .u8 (topK s)] W (RdK W lv)) := Lib.hid fun W hW => by
    rw [HL.out]; exact leaves_any B g n c A rs r rv sv wv i (topK s) W hW hin h0
  have hll : lv.length ≤ 2 := by rw [HL.out]; exact leavesK_len _ _ _ _
  have HLL := Lib.hid hll
  have hk : k ≤ 255 := by rw [HK.out, HT.out]; exact takesK_len h.ok
  have HB : Hid (∀ o : Obj, Below w.heap.size w (w.alloc o)) := Lib.hid fun o => (Below.refl _ _).alloc (Nat.le_refl _) o
  obtain ⟨tp, HTP⟩ : ∃ x, Hid (x = topK s) := ⟨_, Lib.hid rfl⟩
  have HTO : Hid (∀ o : Obj, Calls Try.prog 60 #[.slice SA sn sc] (w.alloc o) fun e w' => e = .returned (.int .u8 tp) ∧ w.alloc o = w') := Lib.hid fun o => by
    rw [HTP.out]; exact topOf_any w.heap.size SA sn sc s _ (HS1.out o) (by omega)
  rw [← HTP.out] at HTK HLV
  obtain ⟨op, arg, imm⟩ := i
  simp only at h0 HTK HLV HAF
  have hgl := h.blk.lt
  have HWK := Lib.hid h
  clear h hs hsl hll hin
  by_cases c1 : sn < k
  · have HN : Hid (afterK (fns rs) r.fn ⟨op, arg, imm⟩ s = none) := Lib.hid (by rw [HAF.out, if_neg (by omega)])
    have g1 : decide ((sn : Int) - (k : Int) < 0) = true := by simp; omega
    have g1' : (sn : Int) - (k : Int) < 0 := by omega
    go_enter Try.func56, Try.ntmps56
    go_wp2_with (first | (go_at_call 60; refine (HTO.out _).mono ?_; rintro e w2 ⟨rfl, rfl⟩) | (go_at_call 61; refine (HTK.out _).mono ?_; rintro e w2 ⟨A2, c2, rfl, hr2, hb2⟩; have HR2 := Lib.hid hr2; have HB2 := Lib.hid hb2; clear hr2 hb2))
    go_ret2
    exact ⟨none, 0, 0, false, rfl, (HB.out _).trans (HB2.out.mono (Nat.le_succ _)), .inl ⟨rfl, HN.out⟩⟩
  obtain ⟨bel, hbel⟩ : ∃ bel, bel = sn - k := ⟨_, rfl⟩
  have hsub : (sn : Int) - (k : Int) = (bel : Int) := by omega
  have hnb : sn - bel = k := by omega
  have hb0 : (0 : Int) ≤ (bel : Int) := by omega
  have hbn : bel ≤ sn := by omega
  have hbc : bel ≤ sc := by omega
  have HBL := Lib.hid hbel
  rw [← hbel] at HAF
  clear hbel
  have g0 : decide ((bel : Int) < 0) = false := by simp
  obtain ⟨q, HQ⟩ : ∃ q, Hid (q = !decide (s.drop bel = t)) := ⟨_, Lib.hid rfl⟩
  have hq' : (!decide (s.drop bel = t)) = q := HQ.out.symm
  obtain ⟨ib, HIB⟩ : ∃ o, Hid (o = Obj.cells #[.int .u8 op, .int .i64 arg, .int .u64 imm] 51) := ⟨_, Lib.hid rfl⟩
  clear hq'
  go_enter Try.func56, Try.ntmps56
  go_upto_region 4 with (first | (go_at_call 60; refine (HTO.out _).mono ?_; rintro e w2 ⟨rfl, rfl⟩) | (go_at_call 61; refine (HTK.out _).mono ?_; rintro e w2 ⟨A2, c2, rfl, hr2, hb2⟩; have HR2 := Lib.hid hr2; have HB2 := Lib.hid hb2; clear hr2 hb2))
  go_cut [31] (fun s31 wx => s31 = .bool q ∧ Hid (Below (w.heap.size + 1) (w.alloc (.cells #[.int .u8 op, .int .i64 arg, .int .u64 imm] 51)) wx))
  case first =>
    have hz2 := HB2.out.size
    rw [World.size_alloc] at hz2
    have HRS := Lib.hid ((HS1.out (.cells #[.int .u8 op, .int .i64 arg, .int .u64 imm] 51)).below (HB2.out.mono (by omega)))
    have HD : Hid (decide (s.drop bel = t) = !q) := Lib.hid (by rw [HQ.out]; simp)
    by_cases hcb : sc = bel
    · have HR : Hid (Reads w2 w.heap.size 1 SA k (u8c (s.drop bel))) := Lib.hid (by
        have h := cut_reads (cap := sc) HRS.out hbn hsc
        rw [hnb, if_pos hcb] at h
        exact h)
      subst hcb
      go_wp2_with (go_at_call 54; with_reducible refine (equal_is w.heap.size w2.heap.size SA A2 k k _ c2 (s.drop sc) t (!q) w2 HR.out HR2.out (by omega) (Nat.le_refl _) (by omega) (by omega) HD.out).mono ?_; rintro e w3 ⟨rfl, hb3⟩; have HB3 := Lib.hid (HB2.out.trans (hb3.mono (by omega))); clear hb3)
      go_meet
      exact ⟨rfl, HB3⟩
    · have HR : Hid (Reads w2 w.heap.size 1 (Option.map (fun x => x.add bel) SA) k (u8c (s.drop bel))) := Lib.hid (by
        have h := cut_reads (cap := sc) HRS.out hbn hsc
        rw [hnb, if_neg hcb] at h
        exact h)
      go_wp2_with (go_at_call 54; with_reducible refine (equal_is w.heap.size w2.heap.size (Option.map (fun x => x.add bel) SA) A2 k k _ c2 (s.drop bel) t (!q) w2 HR.out HR2.out (by omega) (Nat.le_refl _) (by omega) (by omega) HD.out).mono ?_; rintro e w3 ⟨rfl, hb3⟩; have HB3 := Lib.hid (HB2.out.trans (hb3.mono (by omega))); clear hb3)
      go_meet
      exact ⟨rfl, HB3⟩
  case rest =>
    obtain ⟨rfl, HBC⟩ := hcut
    have hzc := HBC.out.size
    rw [World.size_alloc] at hzc
    have HBW := Lib.hid ((HB.out (.cells #[.int .u8 op, .int .i64 arg, .int .u64 imm] 51)).trans (HBC.out.mono (Nat.le_succ _)))
    have HX := (Blk.new w 51 #[.int .u8 op, .int .i64 arg, .int .u64 imm]).below HBC.out (by omega)
    have x0 : wc.cell? ⟨w.heap.size, 0, none⟩ = some (.int .u8 op) := HX.cell 0
    have x1 : wc.cell? ⟨w.heap.size, 1, none⟩ = some (.int .i64 arg) := HX.cell 1
    have x2 : wc.cell? ⟨w.heap.size, 2, none⟩ = some (.int .u64 imm) := HX.cell 2
    clear HX
    cases q with
    | true =>
      have HN : Hid (afterK (fns rs) r.fn ⟨op, arg, imm⟩ s = none) := Lib.hid (by
        rw [HAF.out, if_neg]
        intro hh
        have := HQ.out
        rw [decide_eq_true hh.2.1] at this
        cases this)
      go_wp2
      go_ret2
      exact ⟨none, 0, 0, false, rfl, HBW.out, .inl ⟨rfl, HN.out⟩⟩
    | false =>
      have HDT : Hid (s.drop bel = t) := Lib.hid (by have := HQ.out; simpa using this)
      by_cases c3 : op = 24 ∧ k < sn
      · have HN : Hid (afterK (fns rs) r.fn ⟨op, arg, imm⟩ s = none) := Lib.hid (by
          rw [HAF.out, if_neg]
          intro hh
          exact hh.2.2 c3)
        obtain ⟨rfl, c3⟩ := c3
        have g3 : decide (0 < bel) = true := by simp; omega
        have g3' : decide ((bel : Int) > 0) = true := by simp; omega
        go_wp2
        go_ret2
        exact ⟨none, 0, 0, false, rfl, HBW.out, .inl ⟨rfl, HN.out⟩⟩
      · have HSO : Hid (afterK (fns rs) r.fn ⟨op, arg, imm⟩ s = some (s.take bel ++ lv)) := Lib.hid (by
          rw [HAF.out, if_pos ⟨by omega, HDT.out, c3⟩])
        have HWC : Hid (∀ W, Below wc.heap.size wc W → Wk W B g A n c rs r rv sv wv) := Lib.hid fun W hW => (HWK.out.below HBW.out).below hW
        have HSR : Hid (∀ W, Below wc.heap.size wc W → Reads W W.heap.size 1 SA bel (u8c (s.take bel))) := Lib.hid fun W hW => by
          have h1 := (HS1.out (.cells #[.int .u8 op, .int .i64 arg, .int .u64 imm] 51)).below (HBC.out.mono (Nat.le_succ _))
          have h2 := (h1.below (hW.mono (by omega))).more (B' := W.heap.size) (by have := hW.size; omega)
          exact pre_reads h2 hbn
        have HBD : Hid (Below wc.heap.size wc wc.drew) := Lib.hid (Below.refl _ _).drew
        by_cases c4 : op = 24
        · have hb00 : bel = 0 := by have := HBL.out; have h3 : ¬ k < sn := fun hh => c3 ⟨c4, hh⟩; omega
          subst c4
          have g3 : decide (0 < bel) = false := by simp; omega
          clear c3 hb00
          go_wp2
          go_region_law (first
            | (go_simp; go_at_call 63; refine (HLV.out wc.drew (HWC.out wc.drew HBD.out)).mono ?_; rintro e w5 ⟨A5, m5, c5, rfl, hm5, hmc5, hr5, hb5⟩; have HM5 := Lib.hid hm5; have HR5 := Lib.hid hr5; have hz5 : wc.heap.size ≤ w5.heap.size := hb5.size; have HB5 := Lib.hid (HBD.out.trans hb5); clear hm5 hr5 hb5 hmc5)
            | (go_simp; go_at_call 62; refine (concat_any w5.heap.size SA A5 bel m5 sc c5 (s.take bel) lv _ (Blk.new w5 _ _) ((HSR.out w5 HB5.out).alloc (Nat.le_refl _) _ |>.more (by simp)) ((HR5.out.alloc (Nat.le_refl _) _).more (by simp)) (by omega) (by rw [HM5.out]; have := HLL.out; omega)).mono ?_; rintro e w6 ⟨A6, m6, c6, rfl, hm6, ho6, hb6⟩; have HM6 := Lib.hid hm6; have HO6 := Lib.hid ho6; have HB6 := Lib.hid hb6; clear hm6 ho6 hb6))
          all_goals
            go_wp2
            go_ret2
            exact ⟨A6, m6, c6, true, rfl, HBW.out.trans (HB5.out.mono (by omega)) |>.trans (((Below.refl _ _).alloc (by omega) _).trans (HB6.out.mono (by simp; omega))), .inr ⟨rfl, _, HSO.out, HM6.out.symm, own_more HO6.out (by simp; omega)⟩⟩
        · have g3 : (op == 24) = false := by simpa using c4
          clear c3 c4
          go_wp2
          go_region_law (first
            | (go_simp; go_at_call 63; refine (HLV.out wc.drew (HWC.out wc.drew HBD.out)).mono ?_; rintro e w5 ⟨A5, m5, c5, rfl, hm5, hmc5, hr5, hb5⟩; have HM5 := Lib.hid hm5; have HR5 := Lib.hid hr5; have hz5 : wc.heap.size ≤ w5.heap.size := hb5.size; have HB5 := Lib.hid (HBD.out.trans hb5); clear hm5 hr5 hb5 hmc5)
            | (go_simp; go_at_call 62; refine (concat_any w5.heap.size SA A5 bel m5 sc c5 (s.take bel) lv _ (Blk.new w5 _ _) ((HSR.out w5 HB5.out).alloc (Nat.le_refl _) _ |>.more (by simp)) ((HR5.out.alloc (Nat.le_refl _) _).more (by simp)) (by omega) (by rw [HM5.out]; have := HLL.out; omega)).mono ?_; rintro e w6 ⟨A6, m6, c6, rfl, hm6, ho6, hb6⟩; have HM6 := Lib.hid hm6; have HO6 := Lib.hid ho6; have HB6 := Lib.hid hb6; clear hm6 ho6 hb6))
          all_goals
            go_wp2
            go_ret2
            exact ⟨A6, m6, c6, true, rfl, HBW.out.trans (HB5.out.mono (by omega)) |>.trans (((Below.refl _ _).alloc (by omega) _).trans (HB6.out.mono (by simp; omega))), .inr ⟨rfl, _, HSO.out, HM6.out.symm, own_more HO6.out (by simp; omega)⟩⟩
end Go.Proofs.Ytcgoanfhabjpfaa
