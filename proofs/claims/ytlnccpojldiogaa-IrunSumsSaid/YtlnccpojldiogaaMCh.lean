/-
  Texts of one seat, one behind the other: ICatY.
-/
import Derived.Test.YtlnccpojldiogaaMBd

/-
  Package irun: catch, where the active panic is recovered.
-/
namespace Go.Proofs.Ytlnccpojldiogaa
set_option linter.unusedVariables false
set_option linter.unusedSimpArgs false
open Go.ChangeShapes Go.WideShapes Go.ChangeAt Go.RowKit

section
variable {w0 W W' : World} {bd : Bool} {rb tg fa fo rgb n c k : Nat} {rs : List RG} {st st' : IMc} {t t' : IFr} {bl : List IFr} {gl : List Nat} {fb b o : Nat} {r : RG} {p x : Int} {nd : RN}
set_option maxRecDepth 100000 in
set_option maxHeartbeats 16000000 in
theorem catch_yes {v : Int} {ps : List (Int × Bool)} (h : IRunX w0 bd rb tg fa fo n c rs st (fb :: gl) rgb W) (hf : st.frames = t :: bl) (hr : rs[t.f]? = some r) (hN : NdAt w0 b o nd) (hb : b < w0.heap.size) (pd : PlOk r nd.nd.d) (pe : PlOk r nd.nd.e) (hw : t.why = 3) (hp : st.panics = (v, false) :: ps) (hd : st.doing ≠ 3) (hs : ps.length ≤ 1048577) :
    Calls Try.prog 86 #[.pointer (some ⟨rb, 0, none⟩), ifrV bd fb, .pointer (some ⟨b, o, none⟩)] W fun e w' => e = .returned (.tuple #[]) ∧ IRunX w0 bd rb tg fa fo n c rs ((({ st with panics := (v, true) :: ps } : IMc).put (grs rs) bd t bl nd.nd.d v).put2 (grs rs) bd bl nd.nd.e 1) (fb :: gl) rgb w' := by
  obtain ⟨st2, hst2⟩ : ∃ s : IMc, s = { st with panics := (v, true) :: ps } := ⟨_, rfl⟩
  rw [← hst2]
  have hf2 : st2.frames = t :: bl := by rw [hst2]; exact hf
  have hp2 : st2.panics = (v, true) :: ps := by rw [hst2]
  have hd2 : st2.doing ≠ 3 := by rw [hst2]; exact hd
  have HP2 := Lib.hid hp2
  have HD2 := Lib.hid hd2
  have HN := Lib.hid hN
  have HB := Lib.hid hb
  obtain ⟨q, cq, c1, _, d5, d6, hqz, hrz, hcq, hset⟩ := h.actv hp hd
  have hset := hset true
  rw [← hst2] at hset
  have c1w : W.cell? ⟨fb, 1, none⟩ = some (.int .i64 3) := by have := h.why_ hf; rw [hw] at this; exact this
  obtain ⟨m, hm⟩ : ∃ m, m = ps.length := ⟨_, rfl⟩
  have HM := Lib.hid hm
  rw [← hm] at c1 d5 d6 hcq hset hs
  have HAC := Lib.hid (active_any (v := v) (rc := true) (ps := ps) hs c1 hqz hrz hcq)
  have HS := Lib.hid hs
  have HA : Hid (∀ W', (∃ k, W' = W.drewN k) → W'.cell? ⟨q, m * 2 + 1, none⟩ = some (.bool false) ∧ Hid (Calls Try.prog 123 #[.pointer (some ⟨rb, 0, none⟩)] W' fun e w' => e = .returned (.pointer (some ⟨q, m * 2, none⟩)) ∧ ∃ k, w' = W'.drewN k)) := Lib.hid fun W' ⟨k, hk⟩ => by
    subst hk
    exact ⟨d5, Lib.hid (active_any (v := v) (rc := true) (ps := ps) hs c1 hqz hrz hcq)⟩
  have HF : Hid (∀ W' W'', (∃ k, W' = W.drewN k) → (∃ k, W'' = W'.drewN k) → W''.cell? ⟨q, m * 2 + 1, none⟩ = some (.bool false) ∧ W''.frozen? ⟨q, m * 2 + 1, none⟩ = false ∧ q < W''.heap.size ∧ Hid (IRunX w0 bd rb tg fa fo n c rs st2 (fb :: gl) rgb (W''.setCell ⟨q, m * 2 + 1, none⟩ (.bool true)))) := Lib.hid fun W' W'' ⟨k, hk⟩ ⟨k2, hk2⟩ => by
    subst hk2
    subst hk
    refine ⟨d5, d6, hqz, Lib.hid ?_⟩
    exact hset.on (below_drewN' (below_drewN' (Below.refl _ _) k) k2)
  have HPUT : Hid (∀ W', IRunX w0 bd rb tg fa fo n c rs st2 (fb :: gl) rgb W' → Calls Try.prog (putF bd) #[.pointer (some ⟨fb, 0, none⟩), .int .i64 nd.nd.d, .int .u64 v] W' fun e w' => e = .returned (.tuple #[]) ∧ IRunX w0 bd rb tg fa fo n c rs (st2.put (grs rs) bd t bl nd.nd.d v) (fb :: gl) rgb w') := Lib.hid fun W' h' => put_any h' hf2 hr pd
  have HPUE : Hid (∀ W', IRunX w0 bd rb tg fa fo n c rs (st2.put (grs rs) bd t bl nd.nd.d v) (fb :: gl) rgb W' → W'.cell? ⟨b, o + 3, none⟩ = some (.int .i64 nd.nd.e) ∧ Hid (Calls Try.prog (putF bd) #[.pointer (some ⟨fb, 0, none⟩), .int .i64 nd.nd.e, .int .u64 1] W'.drew fun e w' => e = .returned (.tuple #[]) ∧ IRunX w0 bd rb tg fa fo n c rs ((st2.put (grs rs) bd t bl nd.nd.d v).put2 (grs rs) bd bl nd.nd.e 1) (fb :: gl) rgb w')) := Lib.hid fun W' h' =>
    ⟨(hN.kept hb h'.low).c3, Lib.hid (put2_any (h'.on (Below.refl _ _).drew) hr pe)⟩
  clear h hN hf hr hp hd hs hm c1 d5 d6 hqz hcq hset hst2 hf2 hp2 hd2 hb hw
  unfold ifrV
  have hbm := body_m bd fb
  have hpm := put_m bd fb
  have hnp := nput_m bd fb
  cases bd
  all_goals
    simp only [ptrI, ifrP, putF, Bool.false_eq_true, if_false, if_true] at hbm hpm hnp HPUT HPUE ⊢
    go_enter Try.func86, Try.ntmps86
    go_wp2_with (first
      | (go_at_call 203; refine (body_any fb _).mono ?_; rintro e w3 ⟨rfl, rfl⟩)
      | (go_at_call 123; with_reducible refine HAC.out.mono ?_; rintro e w5 ⟨rfl, h5⟩; obtain ⟨z1, HA2⟩ := HA.out _ h5; have H5 := Lib.hid h5; clear h5)
      | (go_at_call 123; with_reducible refine HA2.out.mono ?_; rintro e w6 ⟨rfl, h6⟩; obtain ⟨y1, y2, y3, HX3⟩ := HF.out _ _ H5.out h6; clear h6))
    generalize w6.setCell ⟨q, m * 2 + 1, none⟩ (.bool true) = W3 at HX3 ⊢
    obtain ⟨q2, cq2, a1, a2, _, _, a3, a4, a5, _⟩ := HX3.out.actv HP2.out HD2.out
    rw [← HM.out] at a1 a2 a5
    have HAC3 := Lib.hid (active_any (W := W3.drew) (v := v) (rc := true) (ps := []) HS.out a1 a3 a4 a5)
    have HG : Hid (∀ W', (∃ k, W' = W3.drew.drewN k) → W'.cell? ⟨b, o + 2, none⟩ = some (.int .i64 nd.nd.d) ∧ W'.cell? ⟨q2, m * 2, none⟩ = some (.int .u64 v) ∧ q2 < W'.heap.size ∧ Hid (IRunX w0 _ rb tg fa fo n c rs st2 (fb :: gl) rgb W')) := Lib.hid fun W' ⟨k, hk⟩ => by
      subst hk
      have h' := HX3.out.on (below_drewN' (Below.refl _ _).drew k)
      exact ⟨(HN.out.kept HB.out h'.low).c2, a2, a3, Lib.hid h'⟩
    have e2 := (HN.out.kept HB.out HX3.out.low).c2
    go_region_law (first
      | (go_simp; go_at_call 123; with_reducible refine HAC3.out.mono ?_; rintro e w7 ⟨rfl, h7⟩; obtain ⟨f1, f2, f3, HX7⟩ := HG.out _ h7; clear h7)
      | (go_simp; go_at_call 205; with_reducible refine (HPUT.out _ HX7.out).mono ?_; rintro e w8 ⟨rfl, h8⟩; obtain ⟨k1, K2⟩ := HPUE.out _ h8; clear h8)
      | (go_simp; go_at_call 210; with_reducible refine (HPUT.out _ HX7.out).mono ?_; rintro e w8 ⟨rfl, h8⟩; obtain ⟨k1, K2⟩ := HPUE.out _ h8; clear h8))
    go_wp2
    all_goals
      go_still_tail 8, (by kernel_rfl)
      go_wp2_with ((first | go_at_call 205 | go_at_call 210); with_reducible refine K2.out.mono ?_; rintro e w4 ⟨rfl, h4⟩; have H4 := Lib.hid h4; clear h4)
      all_goals
        first
          | go_end0
          | go_ret
          | refine bodyPost_ret (v := .tuple #[]) (by simp [results, Try.results86]) rfl ?_
          | trace_state
        exact ⟨rfl, H4.out⟩
end
end Go.Proofs.Ytlnccpojldiogaa
