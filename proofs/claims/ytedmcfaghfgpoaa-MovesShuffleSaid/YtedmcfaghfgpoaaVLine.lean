/-
  Package moves: inLine.
-/
import Derived.Test.YtedmcfaghfgpoaaVAll
namespace Go.Proofs.Ytedmcfaghfgpoaa
set_option linter.unusedVariables false
set_option linter.unusedSimpArgs false
open Go.ChangeShapes Go.WideShapes Go.ChangeAt Go.RowKit

theorem StV.mono {w0 w : World} {pL mF pF mR pR nF nR nF' nR' : Nat} {ln fs : List Mv} {vs : List Int} (h : StV w0 w pL mF pF mR pR ln fs vs nF nR) (h1 : nF ≤ nF') (h2 : nR ≤ nR') : StV w0 w pL mF pF mR pR ln fs vs nF' nR' :=
  ⟨h.ord, h.box, h.fb, h.rb, h.fm.mono h1, h.rm.mono h2, h.bel⟩
theorem StV.same {w0 w : World} {pL mF pF mR pR nF nR : Nat} {ln fs : List Mv} {vs vs' : List Int} (h : StV w0 w pL mF pF mR pR ln fs vs nF nR) (hc : ∀ a, vs'.count a = vs.count a) : StV w0 w pL mF pF mR pR ln fs vs' nF nR :=
  ⟨h.ord, h.box, h.fb, h.rb, h.fm, h.rm.same hc, h.bel⟩
theorem StV.start (w : World) {pL mF pF mR pR : Nat} (h0 : pL = w.heap.size) (h1 : mF = pL + 1) (h2 : pF = mF + 1) (h3 : mR = pF + 1) (h4 : pR = mR + 1) :
    StV w (((((w.alloc (.cells #[.slice none 0 0] 24)).alloc (.map #[] 0)).alloc (.cells #[.map (some mF)] 34)).alloc (.map #[] 0)).alloc (.cells #[.map (some mR)] 34)) pL mF pF mR pR [] [] [] 0 0 := by
  subst h0
  have e1 : mF = (w.alloc (.cells #[.slice none 0 0] 24)).heap.size := by simp [h1]
  have e2 : pF = ((w.alloc (.cells #[.slice none 0 0] 24)).alloc (.map #[] 0)).heap.size := by simp [h1, h2]
  have e3 : mR = (((w.alloc (.cells #[.slice none 0 0] 24)).alloc (.map #[] 0)).alloc (.cells #[.map (some mF)] 34)).heap.size := by simp [h1, h2, h3]
  have e4 : pR = ((((w.alloc (.cells #[.slice none 0 0] 24)).alloc (.map #[] 0)).alloc (.cells #[.map (some mF)] 34)).alloc (.map #[] 0)).heap.size := by simp [h1, h2, h3, h4]
  have f1 := FroM.made (w.alloc (.cells #[.slice none 0 0] 24))
  rw [← e1] at f1
  have b1 := Blk.new ((w.alloc (.cells #[.slice none 0 0] 24)).alloc (.map #[] 0)) 34 #[.map (some mF)]
  rw [← e2] at b1
  have f2 := CntM.made (((w.alloc (.cells #[.slice none 0 0] 24)).alloc (.map #[] 0)).alloc (.cells #[.map (some mF)] 34))
  rw [← e3] at f2
  have b2 := Blk.new ((((w.alloc (.cells #[.slice none 0 0] 24)).alloc (.map #[] 0)).alloc (.cells #[.map (some mF)] 34)).alloc (.map #[] 0)) 34 #[.map (some mR)]
  rw [← e4] at b2
  refine ⟨by omega, ⟨none, 0, ((((Blk.new w 24 #[.slice none 0 0]).alloc _).alloc _).alloc _).alloc _, own_none _ _ _ _⟩, (b1.alloc _).alloc _, b2, ((f1.alloc _).alloc _).alloc _, f2.alloc _, ?_⟩
  exact (((((Below.refl _ _).alloc (Nat.le_refl _) _).alloc (by simp) _).alloc (by simp; omega) _).alloc (by simp; omega) _).alloc (by simp; omega) _

theorem delL_le (fs : List Mv) (c : Int) : (delL fs c).length ≤ fs.length := List.length_filter_le _ _
theorem fs1_snoc {ms : List Mv} {i : Nat} (hi : i < ms.length) : (ms.take (i + 1)).foldl one1 [] = one1 ((ms.take i).foldl one1 []) ms[i] := by
  rw [List.take_succ_eq_append_getElem hi, List.foldl_append]; rfl
theorem fs1_len (ms : List Mv) : ∀ i, i ≤ ms.length → ((ms.take i).foldl one1 []).length ≤ i
  | 0, _ => by simp
  | i + 1, hi => by
    rw [fs1_snoc (by omega)]
    have h1 := fs1_len ms i (by omega)
    generalize (ms.take i).foldl one1 [] = X at h1 ⊢
    have h2 := delL_le X (ms[i]).1
    unfold one1 waitM
    split
    · omega
    · simp
      omega
theorem fs1_fresh {ms : List Mv} (hn : (keysL ms).Nodup) {i : Nat} (hi : i < ms.length) : (ms[i]).1 ∉ keysL ((ms.take i).foldl one1 []) := fun hk => by
  have hs : (keysL (ms.take i)).Sublist (keysL ms) := by
    unfold keysL
    exact List.Sublist.map _ (List.take_sublist _ _)
  obtain ⟨_, r2⟩ := fs1_mem (ms.take i) [] (List.Nodup.sublist hs hn) (by simp [keysL]) (by simp [keysL])
  obtain ⟨f, hf⟩ := mem_keys.1 hk
  have h1 := ((r2 _).1 hf).resolve_left (by simp)
  have h2 := keys_once hn hi
  exact absurd (List.count_pos_iff.2 (mem_keys.2 ⟨f, h1.1⟩)) (by omega)
theorem st2_snoc {ms : List Mv} {i : Nat} (hi : i < ms.length) : st2 ms (ms.take (i + 1)) = fillA (st2 ms (ms.take i)) (ms[i]).1 := by
  unfold st2
  rw [List.take_succ_eq_append_getElem hi, List.foldl_append]
  rfl
theorem st3_snoc {s : Int} {ms : List Mv} {i : Nat} (hi : i < ms.length) : st3 s ms (ms.take (i + 1)) = one3 s (st3 s ms (ms.take i)) ms[i] := by
  unfold st3
  rw [List.take_succ_eq_append_getElem hi, List.foldl_append]
  rfl
theorem bnd_i64 {ms ln fs : List Mv} (h : MvI ms 1000000 ln fs) : ∀ p ∈ fs, I64 p.1 ∧ I64 p.2 := fun p hp => by
  have := h.bf p hp
  unfold I64
  omega

section
variable {w0 w : World} {pL mF pF mR pR nF nR : Nat} {ln fs : List Mv} {vs : List Int}
/-- what an append onto the line leaves -/
def AppV (w0 W : World) (pL mF pF mR pR : Nat) (ln fs : List Mv) (vs : List Int) (nF nR : Nat) (n : Nat) (A : Option Addr) (c : Nat) (G : Nat → Prop) : Prop :=
  ∀ (o : Obj) (A' : Option Addr) (c' : Nat) (w1 : World) (m : Mv), (W.alloc o).grownBy w1 (Value.slice A n c).ownBlock → w1.ownsRow (pR + 1) 26 2 (.slice A' (n + 1) c') (n + 1) (mvc ln ++ mvOne m) →
    w1.frozen? ⟨pL, 0, none⟩ = false ∧ w1.cell? ⟨pL, 0, none⟩ = some (.slice A n c) ∧ StV w0 (w1.setCell ⟨pL, 0, none⟩ (.slice A' (n + 1) c')) pL mF pF mR pR (ln ++ [m]) fs vs nF nR ∧
    ∀ g cs t, G g → Blk W g t cs → Blk (w1.setCell ⟨pL, 0, none⟩ (.slice A' (n + 1) c')) g t cs
theorem StV.appV (h : StV w0 w pL mF pF mR pR ln fs vs nF nR) {n : Nat} (hn : n = ln.length) (o2 : Obj) : ∃ A c, Blk w pL 24 #[.slice A n c] ∧ (∀ o, ((w.alloc o2).alloc o).ownsRow (pR + 1) 26 2 (.slice A n c) n (mvc ln)) ∧
    AppV w0 (w.alloc o2) pL mF pF mR pR ln fs vs nF nR n A c (fun g => g = w.heap.size) := by
  obtain ⟨A, c, hbx, how⟩ := h.box
  rw [← hn] at hbx how
  have ho := h.ord
  have hsz := h.sz
  refine ⟨A, c, hbx, fun o => (how.alloc o2).alloc o, fun o A' c' w1 m h1 h2 => ?_⟩
  have hlow : ∀ g, g ≤ pR → some g ≠ (Value.slice A n c).ownBlock := fun g hg e => by have := (own_block_le how e.symm).1; omega
  have hx := ((hbx.alloc o2).alloc o).grown h1 (hlow _ (by omega))
  refine ⟨hx.frozen 0, hx.cell 0, ?_, fun g cs t hg hb => ?_⟩
  · rw [hn] at h1 h2 hbx how ⊢
    exact ((h.alloc o2).alloc o).app ((hbx.alloc o2).alloc o) ((how.alloc o2).alloc o) h1 h2
  · have : some g ≠ (Value.slice A n c).ownBlock := fun e => by have := (own_block_le how e.symm).2; omega
    exact ((hb.alloc o).grown h1 this).far (by simp; omega) _
end

set_option maxRecDepth 100000 in
set_option maxHeartbeats 25600000 in
theorem inLine_any (w : World) (A : Option Addr) (k cap : Nat) (ms : List Mv) (s : Int) (hr : Reads w w.heap.size 2 A k (mvc ms)) (hk : ms.length = k) (hk2 : k ≤ 100000) (H : OkM ms 1000000 s) :
    Calls Try.prog 8 #[.slice A k cap, .int .i64 s] w fun e w' => (∃ v, e = .returned v ∧ w'.ownsRow w.heap.size 26 2 v (lineM s ms).length (mvc (lineM s ms))) ∧ Below w.heap.size w w' := by
  have HM : Hid (OkM ms 1000000 s) := Lib.hid H
  have HR := Lib.hid hr
  have hmm := @run_makeMap Try.prog
  have HS : Hid (I64 s) := Lib.hid (by have := H.s0; unfold I64; omega)
  obtain ⟨mF, hmF⟩ : ∃ n, n = w.heap.size + 1 := ⟨_, rfl⟩
  obtain ⟨pF, hpF⟩ : ∃ n, n = mF + 1 := ⟨_, rfl⟩
  obtain ⟨mR, hmR⟩ : ∃ n, n = pF + 1 := ⟨_, rfl⟩
  obtain ⟨pR, hpR⟩ : ∃ n, n = mR + 1 := ⟨_, rfl⟩
  have H0 := Lib.hid (StV.start w (pL := w.heap.size) rfl hmF hpF hmR hpR)
  have KK := Lib.hid (And.intro hmF (And.intro hpF (And.intro hmR hpR)))
  clear H hr hmF hpF hmR hpR
  go_enter Try.func8, Try.ntmps8
  go_wp2
  rw [← KK.out.1]
  rw [← KK.out.2.1]
  rw [← KK.out.2.2.1]
  rw [← KK.out.2.2.2]
  clear KK
  obtain ⟨p0, hp0⟩ : ∃ n, n = w.heap.size := ⟨_, rfl⟩
  have KL := Lib.hid hp0
  clear hp0
  go_loopw [24] (fun s wr => ∃ i : Nat, s = .int .i64 i ∧ i ≤ k ∧ Hid (StV w wr w.heap.size mF pF mR pR [] ((ms.take i).foldl one1 []) (valsL ((ms.take i).foldl one1 [])) i i)) (fun s _ => k - (intOf s).toNat)
  case atStart => exact ⟨0, rfl, by omega, H0⟩
  case round =>
    clear H0
    obtain ⟨i, rfl, hi, HX⟩ := hrel
    by_cases hlt : i < k
    · have hil : i < ms.length := by omega
      obtain ⟨m, hm⟩ : ∃ m, m = ms[i] := ⟨_, rfl⟩
      have hmi : ms[i]? = some m := by rw [List.getElem?_eq_getElem hil, hm]
      obtain ⟨b, off, rfl, hb, hc⟩ := HR.out.lit (by omega) (by omega)
      have hat := mvc_at hmi
      have hmem : m ∈ ms := by rw [hm]; exact List.getElem_mem hil
      have hbd := HM.out.bd m hmem
      have hfr := fs1_fresh HM.out.nd hil
      have hsn := fs1_snoc hil
      have hln := fs1_len ms i (by omega)
      obtain ⟨X, hX⟩ : ∃ X, X = (ms.take i).foldl one1 [] := ⟨_, rfl⟩
      rw [← hX] at HX hfr hsn hln
      rw [← hm] at hfr hsn
      obtain ⟨p, q⟩ := m
      simp only at hat hbd hfr
      have x0 : wr.cell? ⟨b, off + i * 2, none⟩ = some (.int .i64 p) := (HX.out.bel.cell hb).trans (hc _ _ hat.1)
      have x1 : wr.cell? ⟨b, off + (i * 2 + 1), none⟩ = some (.int .i64 q) := (HX.out.bel.cell hb).trans (hc _ _ hat.2)
      rw [← Nat.add_assoc] at x1
      have hp' : Hid (I64 p) := Lib.hid (by unfold I64; omega)
      have hq' : Hid (I64 q) := Lib.hid (by unfold I64; omega)
      by_cases hpq : p = q
      · have hst : Hid (StV w (wr.alloc (.cells #[.int .i64 p, .int .i64 q] 26)) w.heap.size mF pF mR pR [] ((ms.take (i + 1)).foldl one1 []) (valsL ((ms.take (i + 1)).foldl one1 [])) (i + 1) (i + 1)) := Lib.hid (by
          rw [hsn]
          unfold one1
          rw [if_pos hpq]
          exact (HX.out.alloc _).mono (by omega) (by omega))
        have hg : (p == q) = true := by simpa using hpq
        have hg2 : (p != q) = false := by simpa using hpq
        clear hat hc hmi hmem hbd hfr hsn hX hm HX hpq hln
        go_wp2
        go_roundw
        case rel => exact ⟨i + 1, by go_num, by omega, hst⟩
        case measure => simp [intOf]; omega
      · have hst : Hid (∀ w', StV w w' w.heap.size mF pF mR pR [] (waitM X p q) (q :: valsL X) (i + 1) (i + 1) → StV w w' w.heap.size mF pF mR pR [] ((ms.take (i + 1)).foldl one1 []) (valsL ((ms.take (i + 1)).foldl one1 [])) (i + 1) (i + 1)) := Lib.hid fun w' h => by
          rw [hsn]
          unfold one1
          rw [if_neg hpq]
          refine h.same fun a => ?_
          unfold waitM
          rw [del_miss _ _ hfr]
          rfl
        have HW : Hid (Calls Try.prog 9 #[.int .i64 p, .int .i64 q, .pointer (some ⟨pF, 0, none⟩), .pointer (some ⟨pR, 0, none⟩)] (wr.alloc (.cells #[.int .i64 p, .int .i64 q] 26)) fun e w' => e = .returned (.tuple #[]) ∧ StV w w' w.heap.size mF pF mR pR [] (waitM X p q) (q :: valsL X) (i + 1) (i + 1)) :=
          Lib.hid (wait_any w _ _ _ _ _ _ _ _ _ _ _ p q hp'.out hq'.out (by omega) (by omega) (by simp [valsL]; omega) (HX.out.alloc _))
        have hg : (p == q) = false := by simpa using hpq
        have hg2 : (p != q) = true := by simpa using hpq
        clear hat hc hmi hmem hbd hfr hsn hX hm HX hpq hln
        go_wp2_with (go_at_call 9; refine HW.out.mono ?_; rintro e w2 ⟨rfl, h2⟩; have H2 := Lib.hid (hst.out _ h2); clear h2)
        go_roundw
        case rel => exact ⟨i + 1, by go_num, by omega, H2⟩
        case measure => simp [intOf]; omega
    · obtain rfl : k = i := by omega
      have H1 : Hid (∃ nR, StV w wr w.heap.size mF pF mR pR (st2 ms (ms.take 0)).1 (st2 ms (ms.take 0)).2 (valsL (st2 ms (ms.take 0)).2) k nR ∧ nR + (st2 ms (ms.take 0)).2.length ≤ 2 * k ∧ (st2 ms (ms.take 0)).1.length + (st2 ms (ms.take 0)).2.length ≤ k) := Lib.hid (by
        have h1 := HX.out
        have h2 := fs1_len ms k (by omega)
        rw [← hk, List.take_length] at h1 h2
        rw [hk] at h1 h2
        have e : st2 ms (ms.take 0) = ([], ms.foldl one1 []) := rfl
        rw [e]
        simp only
        exact ⟨k, h1, by omega, by simp; omega⟩)
      clear HX
      obtain ⟨wo, hwo⟩ : ∃ wo, wo = wr := ⟨_, rfl⟩
      rw [← hwo] at H1 ⊢
      clear hwo
      go_wp2
      go_loopw [42] (fun s wr => ∃ i : Nat, s = .int .i64 i ∧ i ≤ k ∧ Hid (∃ nR, StV w wr w.heap.size mF pF mR pR (st2 ms (ms.take i)).1 (st2 ms (ms.take i)).2 (valsL (st2 ms (ms.take i)).2) k nR ∧ nR + (st2 ms (ms.take i)).2.length ≤ 2 * k ∧ (st2 ms (ms.take i)).1.length + (st2 ms (ms.take i)).2.length ≤ k)) (fun s _ => k - (intOf s).toNat)
      case atStart => exact ⟨0, rfl, by omega, H1⟩
      case round =>
        clear H1
        obtain ⟨i, rfl, hi, HX⟩ := hrel
        by_cases hlt : i < k
        · have hil : i < ms.length := by omega
          obtain ⟨m, hm⟩ : ∃ m, m = ms[i] := ⟨_, rfl⟩
          have hmi : ms[i]? = some m := by rw [List.getElem?_eq_getElem hil, hm]
          obtain ⟨b, off, rfl, hb, hc⟩ := HR.out.lit (by omega) (by omega)
          have hat := mvc_at hmi
          have hmem : m ∈ ms := by rw [hm]; exact List.getElem_mem hil
          have hbd := HM.out.bd m hmem
          have hsn := st2_snoc hil
          have hinv := (HM.out.two i (by omega)).1
          obtain ⟨X, hX⟩ : ∃ X, X = st2 ms (ms.take i) := ⟨_, rfl⟩
          rw [← hX] at HX hsn hinv
          rw [← hm] at hsn
          obtain ⟨nR, hst, hb1, hb2⟩ := HX.out
          obtain ⟨p, q⟩ := m
          simp only at hat hbd hsn
          have x0 : wr.cell? ⟨b, off + i * 2, none⟩ = some (.int .i64 p) := (hst.bel.cell hb).trans (hc _ _ hat.1)
          have x1 : wr.cell? ⟨b, off + (i * 2 + 1), none⟩ = some (.int .i64 q) := (hst.bel.cell hb).trans (hc _ _ hat.2)
          rw [← Nat.add_assoc] at x1
          have HF := Lib.hid (fill_any w (wr.alloc (.cells #[.int .i64 p, .int .i64 q] 26)) _ _ _ _ _ _ _ _ _ p (by unfold I64; omega) _ rfl (by omega) (by omega) (by omega) hinv.nd (bnd_i64 hinv) (hst.alloc _))
          have HE : Hid (∀ w', (∃ nR', StV w w' w.heap.size mF pF mR pR (fillA (X.1, X.2) p).1 (fillA (X.1, X.2) p).2 (valsL (fillA (X.1, X.2) p).2) k nR' ∧ nR' + (fillA (X.1, X.2) p).2.length ≤ nR + X.2.length ∧ (fillA (X.1, X.2) p).1.length + (fillA (X.1, X.2) p).2.length ≤ X.1.length + X.2.length) →
              ∃ nR, StV w w' w.heap.size mF pF mR pR (st2 ms (ms.take (i + 1))).1 (st2 ms (ms.take (i + 1))).2 (valsL (st2 ms (ms.take (i + 1))).2) k nR ∧ nR + (st2 ms (ms.take (i + 1))).2.length ≤ 2 * k ∧ (st2 ms (ms.take (i + 1))).1.length + (st2 ms (ms.take (i + 1))).2.length ≤ k) := Lib.hid fun w' h => by
            rw [hsn]
            obtain ⟨n2, h1, h2, h3⟩ := h
            exact ⟨n2, h1, Nat.le_trans h2 hb1, Nat.le_trans h3 hb2⟩
          clear hat hc hmi hmem hbd hsn hX hm HX hinv hst hb1 hb2
          go_wp2_with (go_at_call 10; refine HF.out.mono ?_; rintro e w2 ⟨rfl, h2⟩; have H2 := Lib.hid (HE.out _ h2); clear h2)
          go_roundw
          case rel => exact ⟨i + 1, by go_num, by omega, H2⟩
          case measure => simp [intOf]; omega
        · obtain rfl : k = i := by omega
          have H2 : Hid (∃ nR nF, nF ≤ k + 0 ∧ StV w wr w.heap.size mF pF mR pR (st3 s ms (ms.take 0)).1 (st3 s ms (ms.take 0)).2 (valsL (st3 s ms (ms.take 0)).2) nF nR ∧ nR + (st3 s ms (ms.take 0)).2.length ≤ 2 * k + 2 * 0 ∧ (st3 s ms (ms.take 0)).1.length + (st3 s ms (ms.take 0)).2.length ≤ k + 0) := Lib.hid (by
            have e : st3 s ms (ms.take 0) = st2 ms (ms.take k) := by rw [← hk, List.take_length]; rfl
            rw [e]
            obtain ⟨nR, h1, h2, h3⟩ := HX.out
            exact ⟨nR, k, by omega, h1, h2, h3⟩)
          clear HX
          obtain ⟨w5, hw5⟩ : ∃ wo, wo = wr := ⟨_, rfl⟩
          rw [← hw5] at H2 ⊢
          clear hw5
          go_wp2
          go_loopw [53] (fun sl wr => ∃ i : Nat, sl = .int .i64 i ∧ i ≤ k ∧ Hid (∃ nR nF, nF ≤ k + i ∧ StV w wr w.heap.size mF pF mR pR (st3 s ms (ms.take i)).1 (st3 s ms (ms.take i)).2 (valsL (st3 s ms (ms.take i)).2) nF nR ∧ nR + (st3 s ms (ms.take i)).2.length ≤ 2 * k + 2 * i ∧ (st3 s ms (ms.take i)).1.length + (st3 s ms (ms.take i)).2.length ≤ k + i)) (fun s _ => k - (intOf s).toNat)
          case atStart => exact ⟨0, rfl, by omega, H2⟩
          case round =>
            clear H2
            obtain ⟨i, rfl, hi, HX⟩ := hrel
            by_cases hlt : i < k
            · have hil : i < ms.length := by omega
              obtain ⟨m, hm⟩ : ∃ m, m = ms[i] := ⟨_, rfl⟩
              have hmi : ms[i]? = some m := by rw [List.getElem?_eq_getElem hil, hm]
              obtain ⟨b, off, rfl, hb, hc⟩ := HR.out.lit (by omega) (by omega)
              have hat := mvc_at hmi
              have hmem : m ∈ ms := by rw [hm]; exact List.getElem_mem hil
              have hbd := HM.out.bd m hmem
              have hsn := st3_snoc (s := s) hil
              obtain ⟨hinv, hful, _⟩ := HM.out.three i (by omega)
              obtain ⟨X, hX⟩ : ∃ X, X = st3 s ms (ms.take i) := ⟨_, rfl⟩
              rw [← hX] at HX hsn hinv hful
              rw [← hm] at hsn
              obtain ⟨nR, nF, hnF, hst, hb1, hb2⟩ := HX.out
              obtain ⟨p, q⟩ := m
              simp only at hat hbd
              have x0 : wr.cell? ⟨b, off + i * 2, none⟩ = some (.int .i64 p) := (hst.bel.cell hb).trans (hc _ _ hat.1)
              have x1 : wr.cell? ⟨b, off + (i * 2 + 1), none⟩ = some (.int .i64 q) := (hst.bel.cell hb).trans (hc _ _ hat.2)
              rw [← Nat.add_assoc] at x1
              have hp' : Hid (I64 p) := Lib.hid (by unfold I64; omega)
              have HA : Hid (∀ o, StV w (wr.alloc o) w.heap.size mF pF mR pR X.1 X.2 (valsL X.2) nF nR) := Lib.hid fun o => hst.alloc o
              have cfa : ∀ o, (wr.alloc o).cell? ⟨pF, 0, none⟩ = some (.map (some mF)) := fun o => (hst.alloc o).fb.cell 0
              cases hlk : lookL X.2 p with
              | none =>
                have hlk' := Lib.hid hlk
                have HE : Hid (∀ o, ∃ nR nF, nF ≤ k + (i + 1) ∧ StV w (wr.alloc o) w.heap.size mF pF mR pR (st3 s ms (ms.take (i + 1))).1 (st3 s ms (ms.take (i + 1))).2 (valsL (st3 s ms (ms.take (i + 1))).2) nF nR ∧ nR + (st3 s ms (ms.take (i + 1))).2.length ≤ 2 * k + 2 * (i + 1) ∧ (st3 s ms (ms.take (i + 1))).1.length + (st3 s ms (ms.take (i + 1))).2.length ≤ k + (i + 1)) := Lib.hid fun o => by
                  have e : one3 s X (p, q) = X := by unfold one3; rw [hlk]
                  rw [hsn, e]
                  exact ⟨nR, nF, by omega, hst.alloc o, by omega, by omega⟩
                clear hat hc hmi hmem hbd hsn hX hm HX hinv hful hst hb1 hb2 hnF hlk
                go_wp2_with (first
                  | (at_lookup; refine wpList_fro_look _ rfl _ _ rfl mF nF X.2 rfl (HA.out _).fm p rfl hp'.out _ hlk'.out ?_)
                  | go_in)
                go_roundw
                case rel => exact ⟨i + 1, by go_num, by omega, Lib.hid (HE.out _)⟩
                case measure => simp [intOf]; omega
              | some f =>
                have hlk' := Lib.hid hlk
                have hmf := look_some hlk
                have hf' := Lib.hid (bnd_i64 hinv _ hmf).2
                have hv := hinv.no_scratch hful HM.out.ns
                have hop := hinv.open hmf HM.out.ns hv HM.out.s0
                have hdl := del_len hinv.nd hmf
                obtain ⟨c, hcn⟩ : ∃ c, c = (valsL X.2).count f := ⟨_, rfl⟩
                have hc1 : 1 ≤ c := by rw [hcn]; exact List.count_pos_iff.2 (mem_vals.2 ⟨p, hmf⟩)
                have hvl : (valsL X.2).length = X.2.length := by simp [valsL]
                have hc2 : c ≤ 1000000 := by
                  rw [hcn]
                  have h1 : (valsL X.2).count f ≤ (valsL X.2).length := List.count_le_length
                  omega
                have hc' := Lib.hid hcn
                have hdec := Lib.hid (count_dec hinv.nd hmf hcn)
                obtain ⟨n, hn⟩ : ∃ n, n = X.1.length := ⟨_, rfl⟩
                have hn2 : n ≤ 1000000 := by omega
                obtain ⟨A1, c1, hbx, hoa, happ⟩ := hst.appV hn (.cells #[.int .i64 p, .int .i64 q] 26)
                have HOA := Lib.hid hoa
                have HAP := Lib.hid happ
                have cba : ∀ o, (wr.alloc o).cell? ⟨w.heap.size, 0, none⟩ = some (.slice A1 n c1) := fun o => (hbx.alloc o).cell 0
                have hord := hst.ord
                have hsz := hst.sz
                have hpRs : pR + 1 ≤ wr.heap.size := hsz
                have HORD := Lib.hid hord
                have hlm : ((p, s) :: delL X.2 p).length = X.2.length := by rw [List.length_cons]; omega
                have HE : Hid (∀ w4, StV w w4 w.heap.size mF pF mR pR (X.1 ++ [(s, f)]) (waitM X.2 p s) (s :: valsL (delL X.2 p)) (nF + 1) (nR + 1 + 1) →
                    Calls Try.prog 10 #[.int .i64 f, .pointer (some ⟨pR, 0, none⟩), .pointer (some ⟨pF, 0, none⟩), .pointer (some ⟨w.heap.size, 0, none⟩)] w4 fun e w' => e = .returned (.tuple #[]) ∧
                      ∃ nR nF, nF ≤ k + (i + 1) ∧ StV w w' w.heap.size mF pF mR pR (st3 s ms (ms.take (i + 1))).1 (st3 s ms (ms.take (i + 1))).2 (valsL (st3 s ms (ms.take (i + 1))).2) nF nR ∧ nR + (st3 s ms (ms.take (i + 1))).2.length ≤ 2 * k + 2 * (i + 1) ∧ (st3 s ms (ms.take (i + 1))).1.length + (st3 s ms (ms.take (i + 1))).2.length ≤ k + (i + 1)) := Lib.hid fun w4 h4 => by
                  have e : one3 s X (p, q) = fillA (X.1 ++ [(s, f)], (p, s) :: delL X.2 p) f := by unfold one3; rw [hlk]; rfl
                  rw [hsn, e]
                  refine (fill_any w w4 _ _ _ _ _ (X.1 ++ [(s, f)]) ((p, s) :: delL X.2 p) (nF + 1) (nR + 1 + 1) f hf'.out _ rfl (by omega) (by omega) (by rw [List.length_append]; simp only [List.length_cons, List.length_nil]; omega) hop.nd (bnd_i64 hop) h4).mono ?_
                  rintro e w' ⟨rfl, n2, h1, h2, h3⟩
                  rw [hlm] at h2 h3
                  rw [List.length_append] at h3
                  simp only [List.length_cons, List.length_nil] at h3
                  exact ⟨rfl, n2, nF + 1, by omega, h1, by omega, by omega⟩
                have HRD : Hid (Reads ((wr.alloc (.cells #[.int .i64 p, .int .i64 q] 26)).alloc (.cells #[.int .i64 s, .int .i64 f] 26)) (wr.heap.size + 1 + 1) 2 (some ⟨wr.heap.size + 1, 0, none⟩) 1 (mvOne (s, f))) := Lib.hid (by
                  have h := one_reads (wr.alloc (.cells #[.int .i64 p, .int .i64 q] 26)) 26 (mvOne (s, f)) 2 rfl
                  have e : (wr.alloc (.cells #[.int .i64 p, .int .i64 q] 26)).heap.size = wr.heap.size + 1 := by simp
                  rw [e] at h
                  exact h)
                have hnF2 : nF < 1000000 := by omega
                have hnR2 : nR + 1 < 1000000 := by omega
                have hvl2 : Hid ((valsL (delL X.2 p)).length ≤ 1000000) := Lib.hid (by have := delL_le X.2 p; simp [valsL]; omega)
                clear hat hc hmi hmem hbd hsn hX hm HX hinv hful hst hb1 hb2 hnF hlk hmf hv hop hdl hcn hvl hn hbx hoa happ hord hlm
                go_wp2_with (first
                  | (at_lookup; refine wpList_fro_look _ rfl _ _ rfl mF nF X.2 rfl (HA.out _).fm p rfl hp'.out _ hlk'.out ?_)
                  | (at_builtin; refine app_mv rfl _ _ rfl (pR + 1) (.slice A1 n c1) n (mvc X.1) rfl (HOA.out _) (wr.heap.size + 1 + 1) (some ⟨wr.heap.size + 1, 0, none⟩) 1 1 (mvOne (s, f)) rfl HRD.out (mvOne_one _) (by omega) (Nat.le_trans hpRs (by simp; omega)) ?_; intro v1 w1 o1 g1 _; obtain ⟨A2, c2, rfl⟩ := own_slice o1; obtain ⟨fz1, cx1, s1, m1⟩ := HAP.out _ A2 c2 w1 (s, f) g1 o1; have S1 := Lib.hid s1; have M1 := Lib.hid (m1 wr.heap.size _ _ rfl (Blk.new wr 26 #[.int .i64 p, .int .i64 q])); have c1r : (w1.setCell ⟨w.heap.size, 0, none⟩ (.slice A2 (n + 1) c2)).cell? ⟨pR, 0, none⟩ = some (.map (some mR)) := S1.out.rb.cell 0; clear g1 o1 s1 m1)
                  | (at_lookup; refine wpList_cnt_look _ rfl _ _ rfl mR nR (valsL X.2) rfl S1.out.rm f rfl hf'.out ?_; rw [← hc'.out])
                  | (at_mapUpdate; refine wpList_cnt_put _ rfl _ _ _ rfl mR nR (valsL X.2) rfl S1.out.rm (by unfold maxLen; omega) f ((c : Int) - 1) rfl rfl hf'.out (by unfold I64; omega) (valsL (delL X.2 p)) hdec.out ?_; intro w3 f3 g3; have S3 := Lib.hid (S1.out.cnt g3 f3); have M3 := Lib.hid (M1.out.grown g3 (by have := HORD.out; simp; omega)); have cm0 : w3.cell? ⟨wr.heap.size, 0, none⟩ = some (.int .i64 p) := M3.out.cell 0; clear f3 g3)
                  | (go_at_call 9; refine (wait_any w _ _ _ _ _ _ _ _ _ _ _ p s hp'.out HS.out (by omega) (by omega) hvl2.out S3.out).mono ?_; rintro e w4 ⟨rfl, h4⟩; have H4 := Lib.hid (HE.out _ h4); clear h4)
                  | (go_at_call 10; refine H4.out.mono ?_; rintro e w5 ⟨rfl, h5⟩; have H5 := Lib.hid h5; clear h5)
                  | go_in)
                go_roundw
                case rel => exact ⟨i + 1, by go_num, by omega, H5⟩
                case measure => simp [intOf]; omega
            · obtain rfl : k = i := by omega
              obtain ⟨nR, nF, hnF, hst, hb1, hb2⟩ := HX.out
              have e : st3 s ms (ms.take k) = st3 s ms ms := by rw [← hk, List.take_length]
              rw [e] at hst hb1 hb2
              obtain ⟨A1, c1, hbx, how⟩ := hst.box
              have cb : wr.cell? ⟨w.heap.size, 0, none⟩ = some (.slice A1 (st3 s ms ms).1.length c1) := hbx.cell 0
              have HF : Hid (wr.ownsRow w.heap.size 26 2 (.slice A1 (lineM s ms).length c1) (lineM s ms).length (mvc (lineM s ms)) ∧ Below w.heap.size w wr) := Lib.hid ⟨own_more how (by have := hst.ord; omega), hst.bel⟩
              have hL : (st3 s ms ms).1.length = (lineM s ms).length := rfl
              rw [hL] at cb
              clear hnF hst hb1 hb2 HX e hbx how hL
              go_wp2
              first | go_end0 | go_ret
              exact ⟨⟨_, rfl, HF.out.1⟩, HF.out.2⟩
end Go.Proofs.Ytedmcfaghfgpoaa
