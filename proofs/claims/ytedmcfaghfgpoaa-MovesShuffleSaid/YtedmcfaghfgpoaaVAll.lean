/-
  Package moves: allowed says yes to moves that may be made.
-/
import Derived.Test.YtedmcfaghfgpoaaVWait
namespace Go.Proofs.Ytedmcfaghfgpoaa
set_option linter.unusedVariables false
set_option linter.unusedSimpArgs false
open Go.ChangeShapes Go.WideShapes Go.ChangeAt Go.RowKit

theorem keys_take {ms : List Mv} {i : Nat} (hi : i < ms.length) (y : Int) : (keysL (ms.take (i + 1))).count y = (keysL (ms.take i)).count y + if (ms[i]).1 = y then 1 else 0 := by
  rw [List.take_succ_eq_append_getElem hi]
  unfold keysL
  rw [List.map_append, List.count_append]
  simp only [List.map_cons, List.map_nil, List.count_cons, List.count_nil, beq_iff_eq, Nat.zero_add]
theorem keys_once {ms : List Mv} (hn : (keysL ms).Nodup) {i : Nat} (hi : i < ms.length) : (keysL (ms.take i)).count (ms[i]).1 = 0 := by
  have h1 : (keysL (ms.take (i + 1))).Nodup := by
    have : (keysL (ms.take (i + 1))).Sublist (keysL ms) := by
      unfold keysL
      exact List.Sublist.map _ (List.take_sublist _ _)
    exact List.Nodup.sublist this hn
  have h2 := List.nodup_iff_count.1 h1 (ms[i]).1
  rw [keys_take hi, if_pos rfl] at h2
  omega

set_option maxRecDepth 100000 in
set_option maxHeartbeats 6400000 in
theorem allowed_any (w : World) (A : Option Addr) (k cap : Nat) (ms : List Mv) (s : Int) (hr : Reads w w.heap.size 2 A k (mvc ms)) (hk : ms.length = k) (hk2 : k ≤ 100000) (H : OkM ms 1000000 s) :
    Calls Try.prog 7 #[.slice A k cap, .int .i64 s] w fun e w' => e = .returned (.bool true) ∧ Below w.heap.size w w' := by
  have HM : Hid (OkM ms 1000000 s) := Lib.hid H
  have HR := Lib.hid hr
  have hs := H.s0
  have hmm := @run_makeMap Try.prog
  have H0 : Hid (CntM (w.alloc (.map #[] 0)) w.heap.size 0 (keysL (ms.take 0)) ∧ Below w.heap.size w (w.alloc (.map #[] 0))) := Lib.hid ⟨CntM.made w, (Below.refl _ _).alloc (Nat.le_refl _) _⟩
  clear H hr
  go_enter Try.func7, Try.ntmps7
  go_wp2
  go_loopw [11] (fun s wr => ∃ i : Nat, s = .int .i64 i ∧ i ≤ k ∧ Hid (CntM wr w.heap.size i (keysL (ms.take i)) ∧ Below w.heap.size w wr)) (fun s _ => k - (intOf s).toNat)
  case atStart => exact ⟨0, rfl, by omega, H0⟩
  case round =>
    clear H0
    obtain ⟨i, rfl, hi, HX⟩ := hrel
    by_cases hlt : i < k
    · have hil : i < ms.length := by omega
      obtain ⟨m, hm⟩ : ∃ m, m = ms[i] := ⟨_, rfl⟩
      have hmi : ms[i]? = some m := by rw [List.getElem?_eq_getElem hil, hm]
      obtain ⟨b, off, rfl, hb, hc⟩ := HR.out.lit (by omega) (by omega)
      have hat := mvc_at hmi
      have hmem : m ∈ ms := by rw [hm]; exact List.getElem_mem hil
      have hbd := HM.out.bd m hmem
      have hn1 : m.1 ≠ s := fun e => HM.out.ns (by rw [← e]; exact mem_keys.2 ⟨m.2, hmem⟩)
      have hn2 : m.2 ≠ s := fun e => HM.out.nv (by rw [← e]; exact mem_vals.2 ⟨m.1, hmem⟩)
      have hct := keys_once HM.out.nd hil
      have hput := fun y => keys_take hil y
      rw [← hm] at hct hput
      obtain ⟨p, q⟩ := m
      simp only at hat hbd hn1 hn2 hct hput
      have x0 : wr.cell? ⟨b, off + i * 2, none⟩ = some (.int .i64 p) := (HX.out.2.cell hb).trans (hc _ _ hat.1)
      have x1 : wr.cell? ⟨b, off + (i * 2 + 1), none⟩ = some (.int .i64 q) := (HX.out.2.cell hb).trans (hc _ _ hat.2)
      rw [← Nat.add_assoc] at x1
      have hp' : Hid (I64 p) := Lib.hid (by unfold I64; omega)
      have HP : Hid (∀ y, (((keysL (ms.take (i + 1))).count y : Nat) : Int) = if y = p then (0 : Int) + 1 else ((keysL (ms.take i)).count y : Nat)) := Lib.hid fun y => by
        rw [hput y]
        by_cases e : y = p
        · rw [if_pos e, if_pos e.symm, e, hct]; rfl
        · rw [if_neg e, if_neg (fun h => e h.symm)]; rfl
      have HC0 := Lib.hid hct
      have HC1 : Hid ((keysL (ms.take (i + 1))).count p = 1) := Lib.hid (by rw [hput, hct, if_pos rfl])
      obtain ⟨h1, h2, h3, h4⟩ := hbd
      have g1 : ¬ p < 0 := by omega
      have e1 : (p == s) = false := by simpa using hn1
      have e2 : (q == s) = false := by simpa using hn2
      have g2 : ¬ q < 0 := by omega
      have HCM : Hid (CntM wr w.heap.size i (keysL (ms.take i))) := Lib.hid HX.out.1
      have HBL : Hid (Below w.heap.size w wr) := Lib.hid HX.out.2
      clear hat hc hmi hmem hct hput hm HX hn1 hn2
      go_wp2_with (first
        | (at_lookup; refine wpList_cnt_look _ rfl _ _ rfl w.heap.size (i + 1) (keysL (ms.take (i + 1))) rfl C1.out p rfl hp'.out ?_; rw [HC1.out])
        | (at_lookup; refine wpList_cnt_look _ rfl _ _ rfl w.heap.size i (keysL (ms.take i)) rfl (HCM.out.alloc _) p rfl hp'.out ?_; rw [HC0.out])
        | (at_mapUpdate; refine wpList_cnt_put _ rfl _ _ _ rfl w.heap.size i (keysL (ms.take i)) rfl (HCM.out.alloc _) (by unfold maxLen; omega) p (0 + 1) rfl rfl hp'.out (by unfold I64; omega) (keysL (ms.take (i + 1))) HP.out ?_; intro w1 f1 g1; have C1 := Lib.hid f1; have y0 : w1.cell? ⟨wr.heap.size, 0, none⟩ = some (.int .i64 p) := (World.cell?_of_block (g1.block _ (by simp) (by have := HCM.out.lt; simp; omega))).trans ((Blk.new wr 26 #[.int .i64 p, .int .i64 q]).cell 0); have y1 : w1.cell? ⟨wr.heap.size, 1, none⟩ = some (.int .i64 q) := (World.cell?_of_block (g1.block _ (by simp) (by have := HCM.out.lt; simp; omega))).trans ((Blk.new wr 26 #[.int .i64 p, .int .i64 q]).cell 1); have HB1 : Hid (Below w.heap.size w w1) := Lib.hid ((HBL.out.alloc HBL.out.size _).grown g1 (Nat.le_trans HBL.out.size (by simp)) (fun k hk => by cases hk; exact Nat.le_refl _)); clear f1 g1)
        | go_in)
      all_goals
        go_roundw
        case rel => exact ⟨i + 1, by go_num, by omega, Lib.hid ⟨C1.out, HB1.out⟩⟩
        case measure => simp [intOf]; omega
    · obtain rfl : i = k := by omega
      have HBL : Hid (Below w.heap.size w wr) := Lib.hid HX.out.2
      clear HX
      have hs0 := hs.1
      go_wp2
      first | go_end0 | go_ret
      exact ⟨rfl, HBL.out⟩
end Go.Proofs.Ytedmcfaghfgpoaa
