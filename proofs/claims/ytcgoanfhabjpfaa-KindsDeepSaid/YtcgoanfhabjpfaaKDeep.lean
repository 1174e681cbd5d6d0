/-
  KindsDeep: the walk.
-/
import Derived.Test.YtcgoanfhabjpfaaKLit
import Derived.Deep.LoopGhost
namespace Go.Proofs.Ytcgoanfhabjpfaa
set_option linter.unusedVariables false
open Go.ChangeShapes Go.WideShapes Go.ChangeAt Go.RowKit

def upI (d : Bool) : Ins := if d then ⟨32, 0, 0⟩ else ⟨28, 0, 0⟩
def deepI (k : Nat) (d : Bool) : List Ins := (⟨1, 0, 5⟩ :: List.replicate (k - 1) (upI d)) ++ List.replicate k ⟨31, 0, 0⟩ ++ [⟨24, 0, 0⟩]
def deepT (k : Nat) (d : Bool) : Bool := match verdC [mkC (deepI k d)] with
  | some (v, ls) => if 16 < k then v == 31 else v == 0 && (match ls with
    | [l] => (match l[k]?, l[2 * k]? with
      | some (some s), some (some t) => s.length == k && t.length == 0
      | _, _ => false)
    | _ => false)
  | none => false
set_option maxRecDepth 100000 in
theorem deep_all : ∀ k, k < 30 → ∀ d : Bool, deepT (k + 1) d = true := by decide +kernel
theorem deep_big {k : Nat} {d : Bool} (h1 : 1 ≤ k) (h30 : k ≤ 30) (h : 16 < k) : ∃ ls, verdC [mkC (deepI k d)] = some (31, ls) := by
  have h2 := deep_all (k - 1) (by omega) d
  rw [Nat.sub_add_cancel h1] at h2
  unfold deepT at h2
  split at h2
  · rename_i v ls hv
    rw [if_pos h] at h2
    have : v = 31 := by simpa using h2
    exact ⟨ls, by rw [hv, this]⟩
  · cases h2
theorem deep_ok {k : Nat} {d : Bool} (h1 : 1 ≤ k) (h : ¬ 16 < k) : ∃ l s, verdC [mkC (deepI k d)] = some (0, [l]) ∧ l[k]? = some (some s) ∧ s.length = k ∧ l[2 * k]? = some (some []) := by
  have h2 := deep_all (k - 1) (by omega) d
  rw [Nat.sub_add_cancel h1] at h2
  unfold deepT at h2
  split at h2
  · rename_i v ls hv
    rw [if_neg h, Bool.and_eq_true] at h2
    obtain ⟨h3, h4⟩ := h2
    have hv0 : v = 0 := by simpa using h3
    split at h4
    · rename_i l
      split at h4
      · rename_i s t hs ht
        rw [Bool.and_eq_true] at h4
        have e1 : s.length = k := by simpa using h4.1
        have e2 : t.length = 0 := by simpa using h4.2
        have e3 : t = [] := List.eq_nil_of_length_eq_zero e2
        exact ⟨l, s, by rw [hv, hv0], hs, e1, by rw [ht, e3]⟩
      · cases h4
    · cases h4
  · cases h2
theorem wf_deep (k : Nat) (d : Bool) : ∀ i ∈ deepI k d, WfI i := by
  intro i hi
  apply wf_small
  unfold deepI at hi
  rcases List.mem_append.1 hi with hi | hi
  · rcases List.mem_append.1 hi with hi | hi
    · rcases List.mem_cons.1 hi with rfl | hi
      · decide
      · rw [List.eq_of_mem_replicate hi]; unfold upI; cases d <;> decide
    · rw [List.eq_of_mem_replicate hi]; decide
  · have : i = ⟨24, 0, 0⟩ := by simpa using hi
    rw [this]; decide
theorem own_insOne (W : World) (base : Nat) (i : Ins) (hb : base ≤ W.heap.size) : (W.alloc (.cells (insOne i).toArray 51)).ownsRow base 51 3 (.slice (some ⟨W.heap.size, 0, none⟩) 1 1) 1 (insc [i]) :=
  ⟨rfl, .inr ⟨W.heap.size, 1, _, rfl, hb, heap_alloc_new W _, Nat.le_refl _, by unfold maxLen; omega, rfl, rfl⟩⟩
theorem insc_snoc (is : List Ins) (i : Ins) : insc is ++ insOne i = insc (is ++ [i]) := by simp [insc]

set_option maxRecDepth 100000 in
set_option maxHeartbeats 6400000 in
theorem deep_walk (x : Int) (d : Bool) (w : World) :
    Calls Try.prog 6 #[.int .i64 x, .bool d] w fun e w' => e = .returned (.bool true) ∧ Below w.heap.size w w' := by
  obtain ⟨y, hy, hy0⟩ : ∃ y : Int, IntKind.u64.wrap x = y ∧ 0 ≤ y := ⟨_, rfl, by rw [IntKind.wrap_u64]; omega⟩
  obtain ⟨r, hr, hr3⟩ : ∃ r : Nat, y % 30 = (r : Int) ∧ r < 30 := ⟨(y % 30).toNat, by omega, by omega⟩
  obtain ⟨k, hk⟩ : ∃ k : Nat, 1 + (r : Int) = (k : Int) := ⟨r + 1, by omega⟩
  have hk1 : 1 ≤ k := by omega
  have hk30 : k ≤ 30 := by omega
  go_enter Try.func6, Try.ntmps6
  go_wp2_with (go_at_call 8; refine (first_any _).mono ?_; rintro e w1 ⟨rfl, hb1⟩; refine Hid.out ?_)
  have HB1 := Lib.hid hb1
  have hz1 := hb1.size
  clear hb1
  refine Lib.hid ?_
  go_wp2
  have HO1 := Lib.hid (own_insOne w1 w.heap.size ⟨1, 0, 5⟩ hz1)
  have HW1 : Hid (Below w.heap.size w (w1.alloc (.cells (insOne ⟨1, 0, 5⟩).toArray 51))) := Lib.hid (HB1.out.alloc hz1 _)
  clear hr hy hk
  go_loopg [6] k (fun gk s wr => ∃ (j : Nat) (A : Option Addr) (c : Nat), gk + (j + 1) = k + 1 ∧ 1 ≤ gk ∧ s = .slice A (j + 1) c ∧ Hid (wr.ownsRow w.heap.size 51 3 (.slice A (j + 1) c) (j + 1) (insc (⟨1, 0, 5⟩ :: List.replicate j (upI d)))) ∧ Hid (Below w.heap.size w wr))
  case atStart => exact ⟨0, _, 1, by omega, by omega, rfl, HO1, HW1⟩
  case round =>
    clear HO1 HW1
    obtain ⟨j, A, c, hj, hgk, rfl, HO, HW⟩ := hrel
    have hzr := HW.out.size
    by_cases hlt : j + 1 < k
    · cases d
      · have HOA := Lib.hid (own_al HO.out (.cells (insOne ⟨28, 0, 0⟩).toArray 51))
        have HRD := Lib.hid (one_reads wr 51 (insOne ⟨28, 0, 0⟩) 3 rfl)
        have HNX : Hid ((⟨1, 0, 5⟩ :: List.replicate j (upI false)) ++ [⟨28, 0, 0⟩] = ⟨1, 0, 5⟩ :: List.replicate (j + 1) (upI false)) := Lib.hid (by rw [List.replicate_succ']; rfl)
        go_wp2_with (at_builtin; refine app_ins rfl _ _ rfl w.heap.size (.slice A (j + 1) c) (j + 1) (insc (⟨1, 0, 5⟩ :: List.replicate j (upI false))) rfl HOA.out (wr.heap.size + 1) (some ⟨wr.heap.size, 0, none⟩) 1 1 (insOne ⟨28, 0, 0⟩) rfl HRD.out (insOne_one _) (by omega) (by simp; omega) ?_; intro v8 w8 hown hgr _; obtain ⟨A8, c8, rfl⟩ := own_slice hown; have hb8 : Below w.heap.size w w8 := (HW.out.alloc hzr (.cells (insOne ⟨28, 0, 0⟩).toArray 51)).grown hgr (by simp; omega) (fun q hq => (own_block_le HOA.out hq).1); have HB8 := Lib.hid hb8; rw [insc_snoc] at hown; have HO8 := Lib.hid hown; clear hown hgr hb8; refine Hid.out ?_)
        rw [HNX.out] at HO8
        refine Lib.hid ?_
        go_wp2
        go_roundg (k - (j + 1))
        case measure => omega
        case rel => exact ⟨j + 1, A8, c8, by omega, by omega, rfl, HO8, HB8⟩
      · have HOA := Lib.hid (own_al HO.out (.cells (insOne ⟨32, 0, 0⟩).toArray 51))
        have HRD := Lib.hid (one_reads wr 51 (insOne ⟨32, 0, 0⟩) 3 rfl)
        have HNX : Hid ((⟨1, 0, 5⟩ :: List.replicate j (upI true)) ++ [⟨32, 0, 0⟩] = ⟨1, 0, 5⟩ :: List.replicate (j + 1) (upI true)) := Lib.hid (by rw [List.replicate_succ']; rfl)
        go_wp2_with (at_builtin; refine app_ins rfl _ _ rfl w.heap.size (.slice A (j + 1) c) (j + 1) (insc (⟨1, 0, 5⟩ :: List.replicate j (upI true))) rfl HOA.out (wr.heap.size + 1) (some ⟨wr.heap.size, 0, none⟩) 1 1 (insOne ⟨32, 0, 0⟩) rfl HRD.out (insOne_one _) (by omega) (by simp; omega) ?_; intro v8 w8 hown hgr _; obtain ⟨A8, c8, rfl⟩ := own_slice hown; have hb8 : Below w.heap.size w w8 := (HW.out.alloc hzr (.cells (insOne ⟨32, 0, 0⟩).toArray 51)).grown hgr (by simp; omega) (fun q hq => (own_block_le HOA.out hq).1); have HB8 := Lib.hid hb8; rw [insc_snoc] at hown; have HO8 := Lib.hid hown; clear hown hgr hb8; refine Hid.out ?_)
        rw [HNX.out] at HO8
        refine Lib.hid ?_
        go_wp2
        go_roundg (k - (j + 1))
        case measure => omega
        case rel => exact ⟨j + 1, A8, c8, by omega, by omega, rfl, HO8, HB8⟩
    · obtain ⟨L, HL⟩ : ∃ L, Hid (L = ⟨1, 0, 5⟩ :: List.replicate (k - 1) (upI d)) := ⟨_, Lib.hid rfl⟩
      have hjk : j + 1 = k := by omega
      have HOL : Hid (wr.ownsRow w.heap.size 51 3 (.slice A k c) k (insc L)) := Lib.hid (by
        have h := HO.out
        rw [hjk] at h
        rw [HL.out, show k - 1 = j by omega]
        exact h)
      have HLL : Hid (L.length = k) := Lib.hid (by rw [HL.out]; simp; omega)
      have HJK := Lib.hid hjk
      have hje : Value.slice A (j + 1) c = .slice A k c := by rw [hjk]
      rw [hje]
      clear HO hlt hj hgk hjk hje
      go_wp2
      go_loopw [6, 32] (fun s i wx => ∃ (j2 : Nat) (A : Option Addr) (c : Nat), j2 ≤ k ∧ s = .slice A (k + j2) c ∧ i = .int .i64 j2 ∧ Hid (wx.ownsRow w.heap.size 51 3 (.slice A (k + j2) c) (k + j2) (insc (L ++ List.replicate j2 ⟨31, 0, 0⟩))) ∧ Hid (Below w.heap.size w wx)) (fun _ i _ => k - (intOf i).toNat)
      case atStart => exact ⟨0, A, c, Nat.zero_le _, rfl, rfl, Lib.hid (by simpa using HOL.out), HW⟩
      case round =>
        clear HOL HW
        obtain ⟨j2, A, c, hj2, rfl, rfl, HO2, HW2⟩ := hrel
        have hzr2 := HW2.out.size
        by_cases hlt : j2 < k
        · have HOA := Lib.hid (own_al HO2.out (.cells (insOne ⟨31, 0, 0⟩).toArray 51))
          have HRD := Lib.hid (one_reads wr 51 (insOne ⟨31, 0, 0⟩) 3 rfl)
          have HNX : Hid ((L ++ List.replicate j2 ⟨31, 0, 0⟩) ++ [⟨31, 0, 0⟩] = L ++ List.replicate (j2 + 1) (⟨31, 0, 0⟩ : Ins)) := Lib.hid (by rw [List.append_assoc, List.replicate_succ'])
          go_wp2_with (at_builtin; refine app_ins rfl _ _ rfl w.heap.size (.slice A (k + j2) c) (k + j2) (insc (L ++ List.replicate j2 (⟨31, 0, 0⟩ : Ins))) rfl HOA.out (wr.heap.size + 1) (some ⟨wr.heap.size, 0, none⟩) 1 1 (insOne ⟨31, 0, 0⟩) rfl HRD.out (insOne_one _) (by omega) (by simp; omega) ?_; intro v8 w8 hown hgr _; obtain ⟨A8, c8, rfl⟩ := own_slice hown; have hb8 : Below w.heap.size w w8 := (HW2.out.alloc hzr2 (.cells (insOne ⟨31, 0, 0⟩).toArray 51)).grown hgr (by simp; omega) (fun q hq => (own_block_le HOA.out hq).1); have HB8 := Lib.hid hb8; rw [insc_snoc] at hown; have HO8 := Lib.hid hown; clear hown hgr hb8; refine Hid.out ?_)
          rw [HNX.out] at HO8
          refine Lib.hid ?_
          go_wp2
          go_roundw
          case rel => exact ⟨j2 + 1, A8, c8, by omega, rfl, by go_num, HO8, HB8⟩
          case measure => simp [intOf]; omega
        · obtain rfl : j2 = k := by omega
          clear hlt hj2
          have HOA := Lib.hid (own_al HO2.out (.cells (insOne ⟨24, 0, 0⟩).toArray 51))
          have HRD := Lib.hid (one_reads wr 51 (insOne ⟨24, 0, 0⟩) 3 rfl)
          have HIS : Hid ((L ++ List.replicate j2 ⟨31, 0, 0⟩) ++ [⟨24, 0, 0⟩] = deepI j2 d) := Lib.hid (by rw [HL.out]; rfl)
          go_wp2_with (at_builtin; refine app_ins rfl _ _ rfl w.heap.size (.slice A (j2 + j2) c) (j2 + j2) (insc (L ++ List.replicate j2 (⟨31, 0, 0⟩ : Ins))) rfl HOA.out (wr.heap.size + 1) (some ⟨wr.heap.size, 0, none⟩) 1 1 (insOne ⟨24, 0, 0⟩) rfl HRD.out (insOne_one _) (by omega) (by simp; omega) ?_; intro v8 w8 hown hgr _; obtain ⟨A8, c8, rfl⟩ := own_slice hown; have hb8 : Below w.heap.size w w8 := (HW2.out.alloc hzr2 (.cells (insOne ⟨24, 0, 0⟩).toArray 51)).grown hgr (by simp; omega) (fun q hq => (own_block_le HOA.out hq).1); have HB8 := Lib.hid hb8; rw [insc_snoc] at hown; have HO8 := Lib.hid hown; clear hown hgr hb8; refine Hid.out ?_)
          rw [HIS.out] at HO8
          obtain ⟨N, HN⟩ : ∃ N, Hid (N = j2 + j2 + 1) := ⟨_, Lib.hid rfl⟩
          have hNs : Value.slice A8 (j2 + j2 + 1) c8 = .slice A8 N c8 := by rw [HN.out]
          have HO9 : Hid (w8.ownsRow w.heap.size 51 3 (.slice A8 N c8) N (insc (deepI j2 d))) := Lib.hid (by rw [HN.out]; exact HO8.out)
          have hN : N ≤ 61 := by rw [HN.out]; omega
          have HNL : Hid (N = (deepI j2 d).length) := Lib.hid (by have h := HO9.out.1; rw [length_insc] at h; omega)
          rw [hNs]
          clear hNs HO8
          have hz8 := HB8.out.size
          have HPR := Lib.hid (lit_prog (W := w8.alloc (.cells #[.int .i64 0, .slice none 0 0, .bool false, .int .i64 (-1), .slice A8 N c8] 47)) (g := w8.heap.size) (deepI j2 d) N c8 A8 HNL.out (by omega) ((Reads.of_own HO9.out).alloc (Nat.le_refl _) _ |>.more (by simp)) (wf_deep j2 d) (Blk.new w8 _ _))
          have HBF : Hid (Below w.heap.size w (w8.alloc (.cells #[.int .i64 0, .slice none 0 0, .bool false, .int .i64 (-1), .slice A8 N c8] 47))) := Lib.hid (HB8.out.alloc hz8 _)
          by_cases h16 : 16 < j2
          · obtain ⟨ls, hv⟩ := deep_big (d := d) hk1 hk30 h16
            have HCK := Lib.hid (check_known _ _ 1 1 _ _ _ _ HPR.out (Nat.le_refl _) hv)
            clear hv
            refine Lib.hid ?_
            go_wp2_with (go_at_call 10; refine HCK.out.mono ?_; rintro e w9 ⟨p, rfl, hb9, hp, _⟩; have hp' := hp (by decide); subst hp'; have HB9 := Lib.hid (HBF.out.trans (hb9.mono (by simp; omega))); clear hb9 hp; refine Hid.out ?_)
            refine Lib.hid ?_
            go_wp2
            go_ret
            exact ⟨rfl, HB9.out⟩
          · obtain ⟨l, s0, hv, hs1, hs2, hs3⟩ := deep_ok (d := d) hk1 h16
            have HCK := Lib.hid (check_known _ _ 1 1 _ _ _ _ HPR.out (Nat.le_refl _) hv)
            have HS1 := Lib.hid hs1
            have HS2 := Lib.hid hs2
            have HS3 := Lib.hid hs3
            clear hv hs1 hs2 hs3
            refine Lib.hid ?_
            go_wp2_with (go_at_call 10; refine HCK.out.mono ?_; rintro e w9 ⟨p, rfl, hb9, _, hp⟩; have HP := Lib.hid (hp rfl); have HB9 := Lib.hid (HBF.out.trans (hb9.mono (by simp; omega))); clear hb9 hp; refine Hid.out ?_)
            obtain ⟨w0, B, tb, rs, rvs, svs, RA, rc, SA, sc, rfl, hti⟩ := HP.out
            have t1 : w9.cell? ⟨tb, 1, none⟩ = some (.slice SA 1 sc) := hti.tj.blk.cell 1
            obtain ⟨bR, oR, bS, oS, ra, sa, m, hR, hS, _, _, _, _, hm, hm256, x0, x1, hat⟩ := hti.look (k := 0) rfl
            obtain ⟨_, a, q, c', y1, hq, _⟩ := hat j2 _ HS1.out
            obtain ⟨_, a2, q2, c2, y2, hq2, _⟩ := hat (2 * j2) _ HS3.out
            have hql : q = j2 := by rw [hq]; exact HS2.out
            have hq20 : q2 = 0 := hq2
            have hlen : 2 * j2 < m := by rw [hm]; exact (List.getElem?_eq_some_iff.1 HS3.out).1
            obtain ⟨k2, hk2⟩ : ∃ k2, k2 = 2 * j2 := ⟨_, rfl⟩
            have hk2' : 2 * (j2 : Int) = (k2 : Int) := by omega
            rw [← hk2] at y2 hlen
            have hj2m : j2 < m := by omega
            subst hS hql hq20
            rw [Nat.add_zero] at x1
            have g16 : decide ((q : Int) > 16) = false := by simp; omega
            clear hat hm hq hq2 x0 hti HP hk2
            refine Lib.hid ?_
            go_wp2
            go_ret
            exact ⟨rfl, HB9.out⟩
end Go.Proofs.Ytcgoanfhabjpfaa
