/-
  Package code's Decode.
-/
import Derived.Test.YtklfppeecgkpnaaDecE
import Derived.Test.YtklfppeecgkpnaaAllB
namespace Go.Proofs.Ytklfppeecgkpnaa
set_option linter.unusedVariables false
open Go.ChangeShapes Go.WideShapes Go.ChangeAt Go.RowKit

/-- rows of the call's own are read -/
theorem RdF.of_own {w : World} {base : Nat} {r : Raw} (h : OwnF w base r) : RdF w w.heap.size r := ⟨Reads.of_own h.locals, Reads.of_own h.code⟩
theorem okI_wf {i : Ins} (h : okI i = true) : WfI i := by
  obtain ⟨h1, h2, h3⟩ := okI_iff.1 h
  have h1 := opB_iff.1 h1
  have h2 := fitB_iff.1 h2
  have h3 := fitB_iff.1 h3
  have ha : (256 : Int) ^ argW i.op ≤ 65536 := by
    have := argW_le i.op
    obtain h | h | h : argW i.op = 0 ∨ argW i.op = 1 ∨ argW i.op = 2 := by omega
    all_goals rw [h]; decide
  have hm : (256 : Int) ^ immW i.op ≤ 18446744073709551616 := by
    obtain h | h : immW i.op = 0 ∨ immW i.op = 8 := by unfold immW; split <;> simp
    all_goals rw [h]; decide
  exact ⟨by omega, by omega, by omega, by omega, by omega, by omega⟩
theorem okF_wf {f : Fn} (h : okF f = true) : WfF f := by
  obtain ⟨h1, h2, h3, h4, h5, h6, h7, h8⟩ := okF_iff.1 h
  exact ⟨by omega, by omega, by omega, by omega, fun k hk => by have := kindB_iff.1 (h7 k hk); omega, fun i hi => okI_wf (h8 i hi), by omega, by omega⟩

/-- what Decode answers -/
def decA (l : List Int) : List Fn × Int := match parse l with
  | none => ([], 30)
  | some fs => if bnd fs then (fs, 0) else ([], 31)
def RdDec (w : World) (q : List Fn × Int) (e : Ending) (w' : World) : Prop :=
  ∃ (rs : List Raw) (k : Nat) (A : Option Addr) (c : Nat), fns rs = q.1 ∧ e = .returned (.tuple #[.agg #[.slice A k c], .int .i64 q.2]) ∧ RdP w' w'.heap.size A k rs ∧ Below w.heap.size w w'
theorem decA_none {l : List Int} (h : parse l = none) : decA l = ([], 30) := by unfold decA; rw [h]
theorem decA_some {l : List Int} {fs : List Fn} (h : parse l = some fs) : decA l = if bnd fs then (fs, 0) else ([], 31) := by unfold decA; rw [h]
theorem rdP_nil (w : World) (B : Nat) : RdP w B none 0 [] := ⟨Reads.none_, rfl, (fun r hr => by cases hr), (fun r hr => by cases hr), by omega⟩

set_option maxRecDepth 100000 in
set_option maxHeartbeats 6400000 in
theorem decode_any (B : Nat) (A : Option Addr) (n c : Nat) (l : List Int) (w : World) (h : Reads w B 1 A n (u8c l)) (hl : l.length = n) (hby : Byt l) (hB : B ≤ w.heap.size) (hnc : n ≤ c) (hcm : c ≤ maxLen) (hnil : A = none → c = 0) :
    Calls Try.prog 10 #[.slice A n c] w (RdDec w (decA l)) := by
  have HH := Lib.hid h
  have HL := Lib.hid hl
  have HBY := Lib.hid hby
  have HN := Lib.hid hnil
  clear h hl hby hnil
  have HQ := Lib.hid (Blk.new w 26 #[.slice none 0 0])
  have HR : Hid (Rdr ((w.alloc (.cells #[.slice none 0 0] 26)).alloc (.cells #[.slice A n c, .bool false] 53)) B (w.heap.size + 1) (some l)) := by
    refine ⟨A, n, c, ?_, by omega, hnc, hcm, (HH.out.alloc hB _).alloc (by simp; omega) _, HL.out, HBY.out, HN.out⟩
    have := Blk.new (w.alloc (.cells #[.slice none 0 0] 26)) 53 #[.slice A n c, .bool false]
    simpa using this
  have HBl : Hid (Below w.heap.size w ((w.alloc (.cells #[.slice none 0 0] 26)).alloc (.cells #[.slice A n c, .bool false] 53))) := ((Below.refl _ _).alloc (Nat.le_refl _) _).alloc (by simp) _
  have HQ1 : Hid (Blk ((w.alloc (.cells #[.slice none 0 0] 26)).alloc (.cells #[.slice A n c, .bool false] 53)) w.heap.size 26 #[.slice none 0 0]) := HQ.out.alloc _
  obtain ⟨gs, HGS⟩ : ∃ gs, Hid (gs = (pProg (some l)).1) := ⟨_, rfl⟩
  obtain ⟨s1, HS1⟩ : ∃ s1, Hid (s1 = (pProg (some l)).2) := ⟨_, rfl⟩
  obtain ⟨qa, HQA⟩ : ∃ q, Hid (q = decA l) := ⟨_, rfl⟩
  rw [← HQA.out]
  unfold maxLen at hcm
  go_enter Try.func10, Try.ntmps10
  go_wp2_with (go_at_call 20; refine (program_any B (w.heap.size + 1) (some l) _ HR.out).mono ?_; rintro e w2 ⟨rs, k, A2, c2, hfn, hk, rfl, ho, heach, hr2, hg2⟩; refine Hid.out ?_)
  rw [← HGS.out] at hfn
  rw [← HS1.out] at hr2
  have HFN := Lib.hid hfn
  have HK := Lib.hid hk
  have hq2 := HQ1.out.only hg2 (by omega)
  have hb2 := HBl.out.trans (below_grown hg2 (B := w.heap.size) (by omega) (by simp; omega))
  have hz2 := hr2.lt
  have HB3 := Lib.hid (hb2.alloc (by omega) (.cells #[.slice A2 k c2] 26))
  have HQ3 := Lib.hid (hq2.alloc (.cells #[.slice A2 k c2] 26))
  have HP3 := Lib.hid (Blk.new w2 26 #[.slice A2 k c2])
  have HR3 := Lib.hid (hr2.alloc (.cells #[.slice A2 k c2] 26))
  have HO3 := Lib.hid (own_alloc ho (.cells #[.slice A2 k c2] 26))
  have HE3 : Hid (∀ r ∈ rs, OwnF (w2.alloc (.cells #[.slice A2 k c2] 26)) (w.heap.size + 2) r) := fun r hr => ⟨own_more (own_alloc (heach r hr).locals _) (by simp), own_more (own_alloc (heach r hr).code _) (by simp)⟩
  clear hfn hk hq2 hb2 hr2 hg2 ho heach
  obtain ⟨AL, nL, cL, cl0, hnL, hnl⟩ := HR3.out.left
  have HNL := Lib.hid hnl
  clear hnl
  cases hs : s1 with
  | none =>
    subst hs
    obtain rfl : nL = 0 := HNL.out
    have HD : Hid (decA l = ([], 30)) := decA_none (by unfold parse; rw [← HS1.out])
    refine Lib.hid ?_
    go_wp2_with (go_at_call 21; refine (need_any B (w.heap.size + 1) none true _ HR3.out).mono ?_; rintro e w4 ⟨rfl, h4, hg4⟩; have c4 := Rdr.bad h4; refine Hid.out ?_)
    have hq4 := HQ3.out.only hg4 (by omega)
    have HB4 := Lib.hid (HB3.out.trans (below_grown hg4 (B := w.heap.size) (by omega) (by simp; omega)))
    have q0 : w4.cell? ⟨w.heap.size, 0, none⟩ = some (.slice none 0 0) := hq4.cell 0
    have qf := hq4.frozen 0
    clear h4 hg4 hq4
    refine Lib.hid ?_
    go_wp2
    exact bodyPost_ret (v := .tuple #[.agg #[.slice none 0 0], .int .i64 30]) (by simp [results, Try.results10, go_sem, q0]) rfl ⟨[], 0, none, 0, by rw [HQA.out, HD.out]; rfl, by rw [HQA.out, HD.out], rdP_nil _ _, HB4.out.setCell (p := ⟨w.heap.size, 0, none⟩) (Nat.le_refl _) _⟩
  | some r =>
    cases r with
    | cons x r =>
      subst hs
      have hn1 : nL = r.length + 1 := HNL.out
      have hq : ((nL : Int) == 0) = false := by simp; omega
      have HD : Hid (decA l = ([], 30)) := decA_none (by unfold parse; rw [← HS1.out])
      clear hn1
      refine Lib.hid ?_
      go_wp2_with (go_at_call 21; refine (need_any B (w.heap.size + 1) (some (x :: r)) false _ HR3.out).mono ?_; rintro e w4 ⟨rfl, h4, hg4⟩; have c4 := Rdr.bad h4; refine Hid.out ?_)
      have hq4 := HQ3.out.only hg4 (by omega)
      have HB4 := Lib.hid (HB3.out.trans (below_grown hg4 (B := w.heap.size) (by omega) (by simp; omega)))
      have q0 : w4.cell? ⟨w.heap.size, 0, none⟩ = some (.slice none 0 0) := hq4.cell 0
      have qf := hq4.frozen 0
      clear h4 hg4 hq4
      refine Lib.hid ?_
      go_wp2
      exact bodyPost_ret (v := .tuple #[.agg #[.slice none 0 0], .int .i64 30]) (by simp [results, Try.results10, go_sem, q0]) rfl ⟨[], 0, none, 0, by rw [HQA.out, HD.out]; rfl, by rw [HQA.out, HD.out], rdP_nil _ _, HB4.out.setCell (p := ⟨w.heap.size, 0, none⟩) (Nat.le_refl _) _⟩
    | nil =>
      subst hs
      obtain rfl : nL = 0 := HNL.out
      have hpa : parse l = some gs := by unfold parse; rw [← HS1.out, ← HGS.out]
      have hok := (parse_back HBY.out hpa).2
      obtain ⟨hk1, hk2, hk3⟩ := okP_iff.1 hok
      have HD := Lib.hid (decA_some hpa)
      have hkl : k ≤ 255 := by rw [← HFN.out, length_fns, HK.out] at hk2; exact hk2
      have HRP : Hid (RdP (w2.alloc (.cells #[.slice A2 k c2] 26)) (w2.heap.size + 1) A2 k rs) := by
        refine ⟨?_, HK.out, fun r hr => ?_, fun r hr => okF_wf (hk3 _ (by rw [← HFN.out]; exact List.mem_map_of_mem hr)), by omega⟩
        · have := Reads.of_own HO3.out
          simpa using this
        · have := RdF.of_own (HE3.out r hr)
          simpa using this
      clear hpa hok hk1 hk2 hk3
      refine Lib.hid ?_
      go_wp2_with (go_at_call 21; refine (need_any B (w.heap.size + 1) (some []) true _ HR3.out).mono ?_; rintro e w4 ⟨rfl, h4, hg4⟩; have c4 := Rdr.good h4; refine Hid.out ?_)
      have hq4 := HQ3.out.only hg4 (by omega)
      have hp4 := HP3.out.only hg4 (by omega)
      have HQ4 := Lib.hid hq4
      have HB4 := Lib.hid (HB3.out.trans (below_grown hg4 (B := w.heap.size) (by omega) (by simp; omega)))
      have p0 : w4.cell? ⟨w2.heap.size, 0, none⟩ = some (.slice A2 k c2) := hp4.cell 0
      have hz4 : w2.heap.size + 1 ≤ w4.heap.size := hp4.lt
      have HO4 := Lib.hid (own_only (own_more HO3.out (show w.heap.size + 2 ≤ _ by simp)) hg4 (by omega))
      have HE4 : Hid (∀ r ∈ rs, OwnF w4 (w.heap.size + 2) r) := fun r hr => ⟨own_only (HE3.out r hr).locals hg4 (by omega), own_only (HE3.out r hr).code hg4 (by omega)⟩
      have HRQ : Hid (RdP w4 w4.heap.size A2 k rs) := ⟨Reads.of_own HO4.out, HK.out, fun r hr => RdF.of_own (HE4.out r hr), HRP.out.wf, HRP.out.sz⟩
      clear h4 hg4 hq4 hp4
      cases hb : bnd gs with
      | false =>
        have HBN : Hid (bnd (fns rs) = false) := Lib.hid (by rw [HFN.out, hb])
        have HE : Hid (qa = ([], 31)) := Lib.hid (by rw [HQA.out, HD.out, hb]; rfl)
        clear hb
        refine Lib.hid ?_
        go_wp2_with (go_at_call 17; refine (bounded_any w4.heap.size A2 k c2 rs _ HRQ.out (Nat.le_refl _)).mono ?_; rintro e w5 ⟨rfl, hb5⟩; rw [HBN.out]; refine Hid.out ?_)
        have hq5 : Blk w5 w.heap.size 26 #[.slice none 0 0] := HQ4.out.below hb5 HQ4.out.lt
        have HB5 := Lib.hid (HB4.out.trans (hb5.mono (by omega)))
        have q0 : w5.cell? ⟨w.heap.size, 0, none⟩ = some (.slice none 0 0) := hq5.cell 0
        have qf := hq5.frozen 0
        clear hb5 hq5
        refine Lib.hid ?_
        go_wp2
        exact bodyPost_ret (v := .tuple #[.agg #[.slice none 0 0], .int .i64 31]) (by simp [results, Try.results10, go_sem, q0]) rfl ⟨[], 0, none, 0, by rw [HE.out]; rfl, by rw [HE.out], rdP_nil _ _, HB5.out.setCell (p := ⟨w.heap.size, 0, none⟩) (Nat.le_refl _) _⟩
      | true =>
        have HBN : Hid (bnd (fns rs) = true) := Lib.hid (by rw [HFN.out, hb])
        have HE : Hid (qa = (gs, 0)) := Lib.hid (by rw [HQA.out, HD.out, hb]; rfl)
        clear hb
        refine Lib.hid ?_
        go_wp2_with (go_at_call 17; refine (bounded_any w4.heap.size A2 k c2 rs _ HRQ.out (Nat.le_refl _)).mono ?_; rintro e w5 ⟨rfl, hb5⟩; rw [HBN.out]; refine Hid.out ?_)
        have hq5 : Blk w5 w.heap.size 26 #[.slice none 0 0] := HQ4.out.below hb5 HQ4.out.lt
        have HB5 := Lib.hid (HB4.out.trans (hb5.mono (by omega)))
        have p5 : w5.cell? ⟨w2.heap.size, 0, none⟩ = some (.slice A2 k c2) := (hb5.cell (p := ⟨w2.heap.size, 0, none⟩) (by show w2.heap.size < _; omega)).trans p0
        have q0 : w5.cell? ⟨w.heap.size, 0, none⟩ = some (.slice none 0 0) := hq5.cell 0
        have qf := hq5.frozen 0
        have HRF : Hid (RdP (w5.setCell ⟨w.heap.size, 0, none⟩ (.slice A2 k c2)) (w5.setCell ⟨w.heap.size, 0, none⟩ (.slice A2 k c2)).heap.size A2 k rs) := by
          have hz5 := hb5.size
          have keep : ∀ {base size n : Nat} {e : TypeId} {v : Value} {xs : List Value}, w4.ownsRow base e size v n xs → w.heap.size < base → (w5.setCell ⟨w.heap.size, 0, none⟩ (.slice A2 k c2)).ownsRow base e size v n xs := fun h hlt =>
            own_store (own_kept h fun i hi => hb5.block i (own_block_le h hi).2) (by show w.heap.size < _; exact hlt) _
          exact ⟨Reads.of_own (keep HO4.out (by omega)), HK.out, fun r hr => RdF.of_own (base := w.heap.size + 2) ⟨keep (HE4.out r hr).locals (by omega), keep (HE4.out r hr).code (by omega)⟩, HRP.out.wf, HRP.out.sz⟩
        clear hb5 hq5
        refine Lib.hid ?_
        go_wp2
        exact bodyPost_ret (v := .tuple #[.agg #[.slice A2 k c2], .int .i64 0]) (by simp [results, Try.results10, go_sem, q0]) rfl ⟨rs, k, A2, c2, by rw [HE.out]; exact HFN.out, by rw [HE.out], HRF.out, HB5.out.setCell (p := ⟨w.heap.size, 0, none⟩) (Nat.le_refl _) _⟩
end Go.Proofs.Ytklfppeecgkpnaa
