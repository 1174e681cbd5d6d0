/-
  Package moves: wait, and fill: places are filled as long as nothing reads them any more.
-/
import Derived.Test.YtedmcfaghfgpoaaVMem
import Derived.BigRegion
import Derived.Deep.LoopGhost
namespace Go.Proofs.Ytedmcfaghfgpoaa
set_option linter.unusedVariables false
set_option linter.unusedSimpArgs false
open Go.ChangeShapes Go.WideShapes Go.ChangeAt Go.RowKit

theorem count_put (vs : List Int) (b : Int) : ∀ y, (((b :: vs).count y : Nat) : Int) = if y = b then (((vs.count b : Nat) : Int) + 1) else (vs.count y : Nat) := fun y => by
  rw [List.count_cons]
  by_cases e : y = b
  · rw [if_pos e, e]; simp
  · rw [if_neg e, if_neg (by simpa using fun h => e h.symm)]; simp

set_option maxRecDepth 100000 in
set_option maxHeartbeats 3200000 in
theorem wait_any (w0 w : World) (pL mF pF mR pR : Nat) (ln fs : List Mv) (vs : List Int) (nF nR : Nat) (a b : Int) (ha : I64 a) (hb : I64 b) (hnF : nF < 1000000) (hnR : nR < 1000000) (hv : vs.length ≤ 1000000)
    (H0 : StV w0 w pL mF pF mR pR ln fs vs nF nR) :
    Calls Try.prog 9 #[.int .i64 a, .int .i64 b, .pointer (some ⟨pF, 0, none⟩), .pointer (some ⟨pR, 0, none⟩)] w fun e w' => e = .returned (.tuple #[]) ∧ StV w0 w' pL mF pF mR pR ln (waitM fs a b) (b :: vs) (nF + 1) (nR + 1) := by
  have H : Hid (StV w0 w pL mF pF mR pR ln fs vs nF nR) := Lib.hid H0
  have cf : w.cell? ⟨pF, 0, none⟩ = some (.map (some mF)) := H0.fb.cell 0
  clear H0
  obtain ⟨k, hk⟩ : ∃ k, k = vs.count b := ⟨_, rfl⟩
  have hkl : k ≤ 1000000 := by rw [hk]; exact Nat.le_trans List.count_le_length hv
  have hk' := Lib.hid hk
  have hput : Hid (∀ y, (((b :: vs).count y : Nat) : Int) = if y = b then ((k : Int) + 1) else (vs.count y : Nat)) := Lib.hid (by rw [hk]; exact count_put vs b)
  have ha' := Lib.hid ha
  have hb' := Lib.hid hb
  clear hk ha hb hv
  go_enter Try.func9, Try.ntmps9
  go_wp2_with (first
    | (at_mapUpdate; refine wpList_fro_put _ rfl _ _ _ rfl mF nF fs rfl H.out.fm (by unfold maxLen; omega) a b rfl rfl ha'.out hb'.out ?_; intro w1 f1 g1; have S1 := Lib.hid (H.out.fro g1 f1); have c1 : w1.cell? ⟨pR, 0, none⟩ = some (.map (some mR)) := S1.out.rb.cell 0; clear f1 g1 H)
    | (at_lookup; refine wpList_cnt_look _ rfl _ _ rfl mR nR vs rfl S1.out.rm b rfl hb'.out ?_; rw [← hk'.out])
    | (at_mapUpdate; refine wpList_cnt_put _ rfl _ _ _ rfl mR nR vs rfl S1.out.rm (by unfold maxLen; omega) b ((k : Int) + 1) rfl rfl hb'.out (by unfold I64; omega) (b :: vs) hput.out ?_; intro w2 f2 g2; have S2 := Lib.hid (S1.out.cnt g2 f2); clear f2 g2)
    | go_in)
  first | go_end0 | go_ret
  exact ⟨rfl, S2.out⟩
/-- the loop's head: what is left comes to the same end T -/
def FlI (w0 : World) (pL mF pF mR pR nF : Nat) (T : Sx) (NR NL : Nat) (m : Nat) (to : Int) (wr : World) : Prop :=
  ∃ ln fs nR, m = fs.length ∧ StV w0 wr pL mF pF mR pR ln fs (valsL fs) nF nR ∧ (keysL fs).Nodup ∧ (∀ p ∈ fs, I64 p.1 ∧ I64 p.2) ∧ I64 to ∧ fillA (ln, fs) to = T ∧ nR + fs.length ≤ NR ∧ ln.length + fs.length ≤ NL

theorem count_dec {fs : List Mv} {a f : Int} {c : Nat} (hn : (keysL fs).Nodup) (hm : (a, f) ∈ fs) (hc : c = (valsL fs).count f) : ∀ y, (((valsL (delL fs a)).count y : Nat) : Int) = if y = f then (c : Int) - 1 else ((valsL fs).count y : Nat) := fun y => by
  have h1 := del_count hn hm y
  by_cases e : y = f
  · rw [if_pos e, hc]
    rw [if_pos e.symm] at h1
    rw [← e]
    omega
  · rw [if_neg e]
    rw [if_neg (fun h => e h.symm)] at h1
    omega
set_option maxRecDepth 100000 in
set_option maxHeartbeats 12800000 in
theorem fill_any (w0 w : World) (pL mF pF mR pR : Nat) (ln fs : List Mv) (nF nR : Nat) (a : Int) (ha : I64 a) (T : Sx) (hT : fillA (ln, fs) a = T) (hnF : nF < 1000000) (hnR : nR + fs.length < 1000000) (hl : ln.length + fs.length ≤ 1000000)
    (hn : (keysL fs).Nodup) (hb : ∀ p ∈ fs, I64 p.1 ∧ I64 p.2) (H0 : StV w0 w pL mF pF mR pR ln fs (valsL fs) nF nR) :
    Calls Try.prog 10 #[.int .i64 a, .pointer (some ⟨pR, 0, none⟩), .pointer (some ⟨pF, 0, none⟩), .pointer (some ⟨pL, 0, none⟩)] w fun e w' => e = .returned (.tuple #[]) ∧ ∃ nR', StV w0 w' pL mF pF mR pR T.1 T.2 (valsL T.2) nF nR' ∧ nR' + T.2.length ≤ nR + fs.length ∧ T.1.length + T.2.length ≤ ln.length + fs.length := by
  obtain ⟨NR, hNR⟩ : ∃ N, N = nR + fs.length := ⟨_, rfl⟩
  obtain ⟨NL, hNL⟩ : ∃ N, N = ln.length + fs.length := ⟨_, rfl⟩
  have HI : Hid (FlI w0 pL mF pF mR pR nF T NR NL fs.length a w) := Lib.hid ⟨ln, fs, nR, rfl, H0, hn, hb, ha, hT, by omega, by omega⟩
  obtain ⟨m0, hm0⟩ : ∃ m, m = fs.length := ⟨_, rfl⟩
  rw [← hm0] at HI
  rw [← hNR, ← hNL]
  rw [← hNR] at hnR
  rw [← hNL] at hl
  clear hNR hNL hm0 H0 hn hb ha hT
  go_enter Try.func10, Try.ntmps10
  go_wp2
  go_loopg [0] m0 (fun m s wr => ∃ to : Int, s = .int .i64 to ∧ Hid (FlI w0 pL mF pF mR pR nF T NR NL m to wr))
  case atStart => exact ⟨a, rfl, HI⟩
  case round =>
    clear HI
    obtain ⟨to, rfl, HX⟩ := hrel
    obtain ⟨ln1, fs1, nR1, hm, hS, hn1, hb1, hto, hT1, hNR1, hNL1⟩ := HX.out
    clear HX
    have H := Lib.hid hS
    have cr : wr.cell? ⟨pR, 0, none⟩ = some (.map (some mR)) := hS.rb.cell 0
    have cf : wr.cell? ⟨pF, 0, none⟩ = some (.map (some mF)) := hS.fb.cell 0
    have hto' := Lib.hid hto
    obtain ⟨k, hk⟩ : ∃ k, k = (valsL fs1).count to := ⟨_, rfl⟩
    have hk' := Lib.hid hk
    by_cases hin : to ∈ valsL fs1
    · have hkp : 0 < k := by rw [hk]; exact List.count_pos_iff.2 hin
      have hfin : Hid (∃ nR', StV w0 wr pL mF pF mR pR T.1 T.2 (valsL T.2) nF nR' ∧ nR' + T.2.length ≤ NR ∧ T.1.length + T.2.length ≤ NL) := Lib.hid (by
        have : fillA (ln1, fs1) to = (ln1, fs1) := fillM_stop (.inl hin)
        rw [← hT1, this]
        exact ⟨nR1, hS, hNR1, hNL1⟩)
      have hkg : ((k : Int) == 0) = false := by simp; omega
      clear hin hk hS hn1 hb1 hto hT1 hNR1 hNL1 hm
      go_wp2_with (first
        | (at_lookup; refine wpList_cnt_look _ rfl _ _ rfl mR nR1 (valsL fs1) rfl H.out.rm to rfl hto'.out ?_; rw [← hk'.out])
        | go_in)
      first | go_end0 | go_ret
      exact ⟨rfl, hfin.out⟩
    · obtain rfl : k = 0 := by rw [hk]; exact List.count_eq_zero.2 hin
      cases hlk : lookL fs1 to with
      | none =>
        have hlk' := Lib.hid hlk
        have hfin : Hid (∃ nR', StV w0 wr pL mF pF mR pR T.1 T.2 (valsL T.2) nF nR' ∧ nR' + T.2.length ≤ NR ∧ T.1.length + T.2.length ≤ NL) := Lib.hid (by
          have : fillA (ln1, fs1) to = (ln1, fs1) := fillM_stop (.inr hlk)
          rw [← hT1, this]
          exact ⟨nR1, hS, hNR1, hNL1⟩)
        clear hin hk hS hn1 hb1 hto hT1 hNR1 hNL1 hm hlk
        go_wp2_with (first
          | (at_lookup; refine wpList_cnt_look _ rfl _ _ rfl mR nR1 (valsL fs1) rfl H.out.rm to rfl hto'.out ?_; rw [← hk'.out])
          | (at_lookup; refine wpList_fro_look _ rfl _ _ rfl mF nF fs1 rfl H.out.fm to rfl hto'.out _ hlk'.out ?_)
          | go_in)
        refine bodyPost_ret (results_none rfl _ _ _) rfl ?_
        exact ⟨rfl, hfin.out⟩
      | some f =>
        have hlk' := Lib.hid hlk
        have hmem := look_some hlk
        have hf' := Lib.hid (hb1 _ hmem).2
        have hlen := del_len hn1 hmem
        obtain ⟨c, hc⟩ : ∃ c, c = (valsL fs1).count f := ⟨_, rfl⟩
        have hc1 : 1 ≤ c := by rw [hc]; exact List.count_pos_iff.2 (mem_vals.2 ⟨to, hmem⟩)
        have hc2 : c ≤ 1000000 := by
          rw [hc]
          have h1 : (valsL fs1).count f ≤ (valsL fs1).length := List.count_le_length
          have h2 : (valsL fs1).length = fs1.length := by simp [valsL]
          omega
        have hc' := Lib.hid hc
        have hdec := Lib.hid (count_dec hn1 hmem hc)
        obtain ⟨n, hnl⟩ : ∃ n, n = ln1.length := ⟨_, rfl⟩
        obtain ⟨A, c0, hbx, hown⟩ := hS.box
        have HBX := Lib.hid hbx
        have HOW := Lib.hid hown
        rw [← hnl] at hbx
        have cb : wr.cell? ⟨pL, 0, none⟩ = some (.slice A n c0) := hbx.cell 0
        have cba : ∀ o, (wr.alloc o).cell? ⟨pL, 0, none⟩ = some (.slice A n c0) := fun o => (hbx.alloc o).cell 0
        have hsz : pR + 1 ≤ wr.heap.size := hS.sz
        have HOA : Hid (∀ o, (wr.alloc o).ownsRow (pR + 1) 26 2 (.slice A n c0) n (mvc ln1)) := Lib.hid fun o => by rw [hnl]; exact hown.alloc o
        have hnb : n ≤ 1000000 := by omega
        have HAPP : Hid (∀ (o : Obj) (A' : Option Addr) (c' : Nat) (w1 : World), (wr.alloc o).grownBy w1 (Value.slice A n c0).ownBlock → w1.ownsRow (pR + 1) 26 2 (.slice A' (n + 1) c') (n + 1) (mvc ln1 ++ mvOne (to, f)) →
            w1.frozen? ⟨pL, 0, none⟩ = false ∧ w1.cell? ⟨pL, 0, none⟩ = some (.slice A n c0) ∧ StV w0 (w1.setCell ⟨pL, 0, none⟩ (.slice A' (n + 1) c')) pL mF pF mR pR (ln1 ++ [(to, f)]) fs1 (valsL fs1) nF nR1) := Lib.hid fun o A' c' w1 h1 h2 => by
          rw [hnl] at h1 h2 ⊢
          have hx := (HBX.out.alloc o).grown h1 (fun e => by have := (own_block_le HOW.out e.symm).1; have := H.out.ord; omega)
          exact ⟨hx.frozen 0, hx.cell 0, (H.out.alloc o).app (HBX.out.alloc o) (HOW.out.alloc o) h1 h2⟩
        have hfin : Hid (∀ w', StV w0 w' pL mF pF mR pR (ln1 ++ [(to, f)]) (delL fs1 to) (valsL (delL fs1 to)) nF (nR1 + 1) → gk = (delL fs1 to).length + 1 ∧ FlI w0 pL mF pF mR pR nF T NR NL (delL fs1 to).length f w') := Lib.hid fun w' h => by
          refine ⟨by omega, ln1 ++ [(to, f)], delL fs1 to, nR1 + 1, rfl, h, del_nodup _ hn1, fun p hp => hb1 p (mem_del.1 hp).1, hf'.out, ?_, by omega, by rw [List.length_append]; simp; omega⟩
          rw [← hT1, fillA_go (st := (ln1, fs1)) hn1 hin hlk]
        obtain ⟨q, hq⟩ : ∃ q, q = (delL fs1 to).length := ⟨_, rfl⟩
        rw [← hq] at hfin
        have hmq : gk = q + 1 := by omega
        have hnR1 : nR1 < 1000000 := by omega
        subst hmq
        clear hin hk hS hn1 hb1 hto hT1 hNR1 hNL1 hm hlk hmem hlen hc hbx hown hnl hq
        go_wp2_with (first
          | (at_delete; refine wpList_fro_del _ rfl _ _ rfl mF nF fs1 rfl S1.out.fm to rfl hto'.out ?_; intro w2 f2 g2; have S2 := Lib.hid (S1.out.fro g2 f2); have c2 : w2.cell? ⟨pR, 0, none⟩ = some (.map (some mR)) := S2.out.rb.cell 0; clear f2 g2)
          | (at_builtin; refine app_mv rfl _ _ rfl (pR + 1) (.slice A n c0) n (mvc ln1) rfl (HOA.out _) (wr.heap.size + 1) (some ⟨wr.heap.size, 0, none⟩) 1 1 (mvOne (to, f)) rfl (one_reads wr 26 (mvOne (to, f)) 2 rfl) (mvOne_one _) (by omega) (by simp; omega) ?_; intro v1 w1 o1 g1 _; obtain ⟨A1, c1, rfl⟩ := own_slice o1; obtain ⟨fz1, cx1, s1⟩ := HAPP.out _ A1 c1 w1 g1 o1; have S1 := Lib.hid s1; have c1f : (w1.setCell ⟨pL, 0, none⟩ (.slice A1 (n + 1) c1)).cell? ⟨pF, 0, none⟩ = some (.map (some mF)) := S1.out.fb.cell 0; clear g1 o1 s1)
          | (at_lookup; refine wpList_cnt_look _ rfl _ _ rfl mR nR1 (valsL fs1) rfl S2.out.rm f rfl hf'.out ?_; rw [← hc'.out])
          | (at_lookup; refine wpList_cnt_look _ rfl _ _ rfl mR nR1 (valsL fs1) rfl H.out.rm to rfl hto'.out ?_; rw [← hk'.out])
          | (at_lookup; refine wpList_fro_look _ rfl _ _ rfl mF nF fs1 rfl H.out.fm to rfl hto'.out _ hlk'.out ?_)
          | (at_mapUpdate; refine wpList_cnt_put _ rfl _ _ _ rfl mR nR1 (valsL fs1) rfl S2.out.rm (by unfold maxLen; omega) f ((c : Int) - 1) rfl rfl hf'.out (by unfold I64; omega) (valsL (delL fs1 to)) hdec.out ?_; intro w3 f3 g3; have S3 := Lib.hid (S2.out.cnt g3 f3); clear f3 g3)
          | go_in)
        go_roundg q
        case measure => omega
        case rel => exact ⟨f, rfl, Lib.hid (hfin.out _ S3.out).2⟩
end Go.Proofs.Ytedmcfaghfgpoaa
