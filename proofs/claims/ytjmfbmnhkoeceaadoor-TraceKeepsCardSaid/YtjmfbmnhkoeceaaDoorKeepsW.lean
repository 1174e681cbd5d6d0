/-
  The walk through TraceKeeps.
-/
import Derived.Test.YtjmfbmnhkoeceaaDoorKeeps
namespace Go.Proofs.YtjmfbmnhkoeceaaDoor
set_option linter.unusedVariables false
open Go.ChangeShapes Go.WideShapes Go.ChangeAt Go.RowKit

/-- the law's own copy of the tape: a row that it writes over -/
def OwnCopy (w : World) (lo hi : Nat) (A : Option Addr) (n : Nat) : Prop := 0 < n → ∃ go cur, A = some ⟨go, 0, none⟩ ∧ lo ≤ go ∧ go < hi ∧ Blk w go 26 cur ∧ n ≤ cur.size
theorem OwnCopy.of {w : World} {B n c : Nat} {A : Option Addr} {xs : List Value} (h : w.ownsRow B 26 1 (.slice A n c) n xs) : OwnCopy w B w.heap.size A n := by
  intro hn
  rcases h.2 with ⟨e, h0⟩ | ⟨g, cap, cur, e, hg, hb, hnc, _, hcs, _⟩
  · omega
  · injection e with e1 e2 e3
    subst e1
    exact ⟨g, cur, rfl, hg, Blk.lt (t := 26) hb, hb, by omega⟩

set_option maxRecDepth 100000 in
set_option maxHeartbeats 16000000 in
theorem keeps_walk (ao : Option Addr) (n c : Nat) (xs : List Int) (bo : Option Addr) (m d : Nat) (os : List Int) (w : World)
    (h : Reads w w.heap.size 1 ao n (xs.map (Value.int .u64))) (hl : xs.length = n) (hnc : n ≤ c) (hc : c * 8 ≤ 140737488351232)
    (h2 : Reads w w.heap.size 1 bo m (os.map (Value.int .u64))) (hl2 : os.length = m) (hmd : m ≤ d) (hd : d * 8 ≤ 140737488351232) (hos : ∀ x ∈ os, 0 ≤ x ∧ x < 18446744073709551616) :
    Calls Tryd.prog 3 #[.slice ao n c, .slice bo m d] w fun e w' => e = .returned (.bool true) ∧ Below w.heap.size w w' := by
  obtain ⟨i0, hi, hz0, hz1, hz2⟩ := info_parts Tryd.info26
  obtain ⟨i1, hi1, hy0, hy1, hy2⟩ := info_parts Tryd.info31
  have HR := Lib.hid h
  have HL := Lib.hid hl
  have HR2 := Lib.hid h2
  have HL2 := Lib.hid hl2
  have HOS := Lib.hid hos
  clear h hl h2 hl2 hos
  go_enter Tryd.func3, Tryd.ntmps3
  go_wp2_with (go_at_call 9; refine (first_any _).mono ?_; rintro e w1 ⟨rfl, hb1⟩; refine Hid.out ?_)
  have H1 : Hid (Reads (w1.alloc (.cells #[] 26)) w.heap.size 1 ao n (xs.map (Value.int .u64))) := Lib.hid ((HR.out.below hb1).alloc hb1.size _)
  have hs1 := hb1.size
  have HB1 := Lib.hid hb1
  clear hb1
  refine Lib.hid ?_
  go_wp2_with (at_builtin; refine wpList_append_any _ rfl _ _ 22 rfl w1.heap.size 26 i0 (.int .u64 0) 1 8 Tryd.underlying22 hi hz0 hz1 hz2 rfl (by decide) _ 0 [] rfl (World.ownsRow_made w1 #[] 0 (Nat.le_refl _) (Nat.zero_le _) (by simp)) w.heap.size ao n c (xs.map (Value.int .u64)) rfl H1.out (ints_one xs) (by unfold maxLen; omega) (by omega) (by simp) ?_; intro v' w2 hown hgr _; refine Hid.out ?_)
  rw [Nat.zero_add] at hown
  rw [List.nil_append] at hown
  obtain ⟨A, cA, rfl⟩ := own_slice hown
  have HB2 : Hid (Below w1.heap.size w1 w2) := ((Below.refl _ _).alloc (Nat.le_refl _) _).grown hgr (by simp) (by
    intro k hk
    injection hk with hk
    exact Nat.le_of_eq hk)
  have hs2 := HB2.out.size
  have HO := Lib.hid hown
  clear hown hgr
  refine Lib.hid ?_
  go_wp2_with (go_at_call 10; refine (new_any w2.heap.size A n cA xs _ (Reads.of_own HO.out) (Nat.le_refl _) (by omega)).mono ?_; rintro e w3 ⟨g, tv0, rfl, h3, hb3⟩; refine Hid.out ?_)
  have HT3 := Lib.hid h3
  have HC3 : Hid (OwnCopy w3 w1.heap.size w2.heap.size A n) := by
    intro hn
    obtain ⟨go, cur, e, h1, h2, h3, h4⟩ := OwnCopy.of HO.out hn
    exact ⟨go, cur, e, h1, h2, h3.below hb3 h2, h4⟩
  have HW3 : Hid (Below w.heap.size w w3) := (HB1.out.trans (HB2.out.mono hs1)).trans (hb3.mono (by omega))
  clear h3 hb3
  refine Lib.hid ?_
  go_wp2
  go_loopw [25] (fun i wr => ∃ k : Nat, k ≤ n ∧ i = .int .i64 k ∧ Hid (OwnCopy wr w1.heap.size w2.heap.size A n) ∧ Hid (IsTr wr w2.heap.size g tv0 (.slice none 0 0) xs []) ∧ Hid (Below w.heap.size w wr)) (fun i _ => n - (intOf i).toNat)
  case atStart => exact ⟨0, Nat.zero_le _, rfl, HC3, HT3, HW3⟩
  case round =>
    obtain ⟨k, hk, rfl, HC, HT, HW⟩ := hrel
    by_cases hlt : k < n
    · obtain ⟨go, cur, rfl, hgo1, hgo2, hblk, hcs⟩ := HC.out (by omega)
      have hx : wr.cell? ⟨go, k, none⟩ = some cur[k] := by rw [hblk.cell]; exact Array.getElem?_eq_getElem (by omega)
      have hf : wr.frozen? ⟨go, k, none⟩ = false := hblk.frozen k
      have HBL := Lib.hid hblk
      clear hblk
      go_wp2
      go_roundw
      case rel => exact ⟨k + 1, by omega, by go_num, (fun _ => ⟨go, _, rfl, hgo1, hgo2, HBL.out.set_ k _, by simpa using hcs⟩), HT.out.far (p := ⟨go, k, none⟩) hgo2 _, HW.out.setCell (by show w.heap.size ≤ go; omega) _⟩
      case measure => simp [intOf]; omega
    · obtain rfl : n = k := by omega
      clear hlt hk
      go_wp2
      obtain ⟨wo, rfl⟩ : ∃ wo : World, wo = wr := ⟨_, rfl⟩
      go_loopw [8, 9, 34] (fun wv at_ i wr => ∃ (k a : Nat) (E : List Ev), Hid (keepAt xs os k = (a, E)) ∧ k ≤ m ∧ k ≤ 50 ∧ a ≤ k ∧ i = .int .i64 k ∧ at_ = .int .i64 a ∧ (∃ tv ev, Hid (IsTr wr w2.heap.size g tv ev (xs.drop a) E) ∧ Hid (Apart wv ev)) ∧ Hid (wr.ownsRow w.heap.size 31 2 wv k (evc E)) ∧ Hid (Below w.heap.size w wr)) (fun _ _ i _ => m - (intOf i).toNat)
      case atStart => exact ⟨0, 0, [], rfl, Nat.zero_le _, Nat.zero_le _, Nat.le_refl _, rfl, rfl, ⟨_, _, HT, (want_none wo w.heap.size _).2⟩, (want_none wo w.heap.size (.slice none 0 0)).1, HW⟩
      case round =>
        clear HC HT HW
        obtain ⟨k, a, E, HK, hk, hk50, hak, rfl, rfl, ⟨tv, ev, HT, HD⟩, HWN, HW⟩ := hrel
        obtain ⟨Aw0, cw0, rfl⟩ := own_slice HWN.out
        by_cases hlt : k < m
        · obtain ⟨b, off, rfl, hbb, hcc⟩ := HR2.out.lit (by omega) (by omega)
          have hol : k < os.length := by have := HL2.out; omega
          obtain ⟨o, HX⟩ : ∃ o, Hid (os[k]? = some o) := ⟨_, List.getElem?_eq_getElem hol⟩
          have hx : wr.cell? ⟨b, off + k, none⟩ = some (.int .u64 o) := by rw [HW.out.cell (p := ⟨b, off + k, none⟩) hbb]; exact hcc k _ (by rw [List.getElem?_map, HX.out]; rfl)
          have ho0 : 0 ≤ o := (HOS.out o (List.mem_of_getElem? HX.out)).1
          have HEL : Hid (E.length = k) := Lib.hid (by have := (keepAt_len xs os k (by have := HL2.out; omega)).1; rw [HK.out] at this; exact this)
          have hbz : w2.heap.size ≤ wr.heap.size := by have h1 := HT.out.le; have h2 := HT.out.blk.lt; omega
          clear hcc hol
          by_cases h50 : k < 50
          · by_cases hev : o % 2 = 0
            · have he : (o % 2 == 0) = true := by simpa using hev
              have HEv := Lib.hid hev
              obtain ⟨v, HV⟩ : ∃ v, Hid (tapeAt xs a = v) := ⟨_, rfl⟩
              have HH := Lib.hid ((hd_drop xs a).trans HV.out)
              clear hev
              by_cases han : a < n
              · obtain ⟨b1, off1, rfl, hbb1, hcc1⟩ := HR.out.lit (by omega) (by omega)
                have hvx : xs[a]? = some v := by
                  rw [← HV.out]
                  unfold tapeAt
                  have hjl : a < xs.length := by have := HL.out; omega
                  simp [hjl]
                have hx1 : wr.cell? ⟨b1, off1 + a, none⟩ = some (.int .u64 v) := by rw [HW.out.cell (p := ⟨b1, off1 + a, none⟩) hbb1]; exact hcc1 a _ (by rw [List.getElem?_map, hvx]; rfl)
                clear hcc1 hvx
                have HKn : Hid (keepAt xs os (k + 1) = (a + 1, E ++ [(2, v)])) := by
                  have h := keepAt_succ (xs := xs) HX.out
                  rw [HK.out] at h
                  simp only [keepStep, HEv.out, if_true] at h
                  rw [HV.out] at h
                  exact h
                go_wp2_with (go_at_call 11; refine (in_any _ g tv ev _ E _ HT.out hbz (by have := HEL.out; omega)).mono ?_; rintro e w4 ⟨tv4, ev4, rfl, h4, hb4, ho4⟩; refine Hid.out ?_)
                rw [HH.out]
                rw [HH.out, tail_drop] at h4
                have H4 := Lib.hid h4
                have hap := apart_only HWN.out HT.out.blk (by decide) HD.out ho4
                have HWN4 := Lib.hid hap.1
                have HD4 := Lib.hid hap.2
                have HW4 : Hid (Below w.heap.size w w4) := HW.out.trans (hb4.mono (by omega))
                clear h4 hb4 ho4 hap
                have HEL4 : Hid ((E ++ [(2, v)]).length = k + 1) := Lib.hid (by have := HEL.out; rw [List.length_append]; simp; omega)
                have HRd : Hid (Reads (w4.alloc (.cells #[.int .i64 2, .int .u64 v] 31)) (w4.heap.size + 1) 2 (some ⟨w4.heap.size, 0, none⟩) 1 [.int .i64 2, .int .u64 v]) := Lib.hid (one_reads w4 31 (2, v))
                have HOw := Lib.hid (HWN4.out.alloc (.cells #[.int .i64 2, .int .u64 v] 31))
                have HOne : Hid (∀ u ∈ [Value.int .i64 2, Value.int .u64 v], u.oneCell' = true) := Lib.hid (evOne_one (2, v))
                have hs4 := HW4.out.size
                refine Lib.hid ?_
                go_wp2_with (at_builtin; refine wpList_append_any _ rfl _ _ 27 rfl w.heap.size 31 i1 (.agg #[.int .i64 0, .int .u64 0]) 2 16 Tryd.underlying27 hi1 hy0 hy1 hy2 rfl (by decide) _ k (evc E) rfl HOw.out (w4.heap.size + 1) (some ⟨w4.heap.size, 0, none⟩) 1 1 [.int .i64 2, .int .u64 v] rfl HRd.out HOne.out (by unfold maxLen; omega) (by omega) (by simp; omega) ?_; intro v5 w5 hown5 hgr5 hor5; refine Hid.out ?_)
                obtain ⟨Aw5, cw5, rfl⟩ := own_slice hown5
                have HAP := Lib.hid (apart_push H4.out HWN4.out HD4.out hgr5 hor5)
                have HOwn5 : Hid (w5.ownsRow w.heap.size 31 2 (.slice Aw5 (k + 1) cw5) (k + 1) (evc (E ++ [(2, v)]))) := by
                  rw [evc_append]
                  exact hown5
                have HW5 : Hid (Below w.heap.size w w5) := (HW4.out.alloc HW4.out.size _).grown hgr5 (by simp; omega) (fun i hi => (own_block_le HWN4.out hi).1)
                have hs5 := HW5.out.size
                clear hown5 hgr5 hor5 HRd HOw HOne
                refine Lib.hid ?_
                go_wp2_with (go_at_call 13; refine (events_any _ g _ _ _ (E ++ [(2, v)]) _ HAP.out.1 (by have := HEL4.out; omega)).mono ?_; rintro e w6 ⟨v6, rfl, h6, hb6⟩; refine Hid.out ?_)
                rw [HEL4.out] at h6
                obtain ⟨A6, c6, rfl⟩ := own_slice h6
                have HR6 : Hid (Reads w6 w6.heap.size 2 A6 (k + 1) (evc (E ++ [(2, v)]))) := Lib.hid (Reads.of_own h6)
                have HR5 : Hid (Reads w6 w6.heap.size 2 Aw5 (k + 1) (evc (E ++ [(2, v)]))) := Lib.hid (Reads.of_own (own_kept HOwn5.out fun i hi => hb6.block i (own_block_le HOwn5.out hi).2))
                obtain ⟨g6, hA6, hg6, cur6, hcur6, hsz6⟩ : ∃ g6, A6 = some ⟨g6, 0, none⟩ ∧ w5.heap.size ≤ g6 ∧ ∃ cur, Blk w6 g6 31 cur ∧ (k + 1) * 2 ≤ cur.size := by
                  rcases h6.2 with ⟨_, h0⟩ | ⟨g6, cap, cur, e, hg, hb, hnc, _, hcs, _⟩
                  · omega
                  · injection e with e1 e2 e3
                    exact ⟨g6, e1, hg, cur, hb, by rw [hcs]; exact Nat.mul_le_mul_right 2 hnc⟩
                subst hA6
                have HB6 := Lib.hid hb6
                have HC6 := Lib.hid hcur6
                have hsam : sam (E ++ [(2, v)]) (E ++ [(2, v)]) = true := by simp [sam]
                have HSam := Lib.hid hsam
                clear h6 hb6 hcur6 hsam
                refine Lib.hid ?_
                go_wp2_with (go_at_call 14; refine (refsame_any _ _ _ (k + 1) (k + 1) c6 cw5 _ _ _ HR6.out HR5.out HEL4.out HEL4.out (by unfold maxLen; omega) (by unfold maxLen; omega)).mono ?_; rintro e w7 ⟨rfl, q7, rfl⟩; rw [HSam.out]; refine Hid.out ?_)
                have HC7 : Hid (∃ cur, Blk (w6.drewN q7) g6 31 cur ∧ (k + 1) * 2 ≤ cur.size) := ⟨cur6, HC6.out.drewN q7, hsz6⟩
                have HB7 : Hid (Below w5.heap.size w5 (w6.drewN q7)) := below_drewN HB6.out q7
                generalize w6.drewN q7 = w7 at HC7 HB7 ⊢
                refine Lib.hid ?_
                go_wp2
                go_loopw [79] (fun i wq => ∃ t : Nat, t ≤ k + 1 ∧ i = .int .i64 t ∧ Hid (Below w5.heap.size w5 wq) ∧ Hid (∃ cur, Blk wq g6 31 cur ∧ (k + 1) * 2 ≤ cur.size)) (fun i _ => k + 1 - (intOf i).toNat)
                case atStart => exact ⟨0, Nat.zero_le _, rfl, HB7, HC7⟩
                case round =>
                  obtain ⟨t, ht, rfl, HBq, HCq⟩ := hrel
                  by_cases htl : t < k + 1
                  · obtain ⟨cur, hcur, hsz⟩ := HCq.out
                    have hx : wr.cell? ⟨g6, t * 2 + 1, none⟩ = some cur[t * 2 + 1] := by rw [hcur.cell]; exact Array.getElem?_eq_getElem (by omega)
                    have hf : wr.frozen? ⟨g6, t * 2 + 1, none⟩ = false := hcur.frozen _
                    have HCur := Lib.hid hcur
                    clear hcur
                    go_wp2
                    go_roundw
                    case rel => exact ⟨t + 1, by omega, by go_num, HBq.out.setCell (p := ⟨g6, t * 2 + 1, none⟩) hg6 _, ⟨_, HCur.out.set_ (t * 2 + 1) _, by simpa using hsz⟩⟩
                    case measure => simp [intOf]; omega
                  · obtain rfl : t = k + 1 := by omega
                    have HTn := Lib.hid (HAP.out.1.below HBq.out)
                    have HDn := Lib.hid HAP.out.2
                    have HWn : Hid (Below w.heap.size w wr) := HW5.out.trans (HBq.out.mono hs5)
                    have HOn : Hid (wr.ownsRow w.heap.size 31 2 (.slice Aw5 (k + 1) cw5) (k + 1) (evc (E ++ [(2, v)]))) := own_kept HOwn5.out fun i hi => HBq.out.block i (own_block_le HOwn5.out hi).2
                    clear htl ht
                    go_wp2
                    go_roundw
                    case rel => exact ⟨k + 1, a + 1, E ++ [(2, v)], HKn, by omega, by omega, by omega, by go_num, by go_num, ⟨_, _, HTn, HDn⟩, HOn, HWn⟩
                    case measure => simp [intOf]; omega
              · obtain rfl : v = 0 := by
                  rw [← HV.out]
                  unfold tapeAt
                  have hjl : xs.length ≤ a := by have := HL.out; omega
                  simp [hjl]
                have HKn : Hid (keepAt xs os (k + 1) = (a + 1, E ++ [(2, 0)])) := by
                  have h := keepAt_succ (xs := xs) HX.out
                  rw [HK.out] at h
                  simp only [keepStep, HEv.out, if_true] at h
                  rw [HV.out] at h
                  exact h
                go_wp2_with (go_at_call 11; refine (in_any _ g tv ev _ E _ HT.out hbz (by have := HEL.out; omega)).mono ?_; rintro e w4 ⟨tv4, ev4, rfl, h4, hb4, ho4⟩; refine Hid.out ?_)
                rw [HH.out]
                rw [HH.out, tail_drop] at h4
                have H4 := Lib.hid h4
                have hap := apart_only HWN.out HT.out.blk (by decide) HD.out ho4
                have HWN4 := Lib.hid hap.1
                have HD4 := Lib.hid hap.2
                have HW4 : Hid (Below w.heap.size w w4) := HW.out.trans (hb4.mono (by omega))
                clear h4 hb4 ho4 hap
                have HEL4 : Hid ((E ++ [(2, 0)]).length = k + 1) := Lib.hid (by have := HEL.out; rw [List.length_append]; simp; omega)
                have HRd : Hid (Reads (w4.alloc (.cells #[.int .i64 2, .int .u64 0] 31)) (w4.heap.size + 1) 2 (some ⟨w4.heap.size, 0, none⟩) 1 [.int .i64 2, .int .u64 0]) := Lib.hid (one_reads w4 31 (2, 0))
                have HOw := Lib.hid (HWN4.out.alloc (.cells #[.int .i64 2, .int .u64 0] 31))
                have HOne : Hid (∀ u ∈ [Value.int .i64 2, Value.int .u64 0], u.oneCell' = true) := Lib.hid (evOne_one (2, 0))
                have hs4 := HW4.out.size
                refine Lib.hid ?_
                go_wp2_with (at_builtin; refine wpList_append_any _ rfl _ _ 27 rfl w.heap.size 31 i1 (.agg #[.int .i64 0, .int .u64 0]) 2 16 Tryd.underlying27 hi1 hy0 hy1 hy2 rfl (by decide) _ k (evc E) rfl HOw.out (w4.heap.size + 1) (some ⟨w4.heap.size, 0, none⟩) 1 1 [.int .i64 2, .int .u64 0] rfl HRd.out HOne.out (by unfold maxLen; omega) (by omega) (by simp; omega) ?_; intro v5 w5 hown5 hgr5 hor5; refine Hid.out ?_)
                obtain ⟨Aw5, cw5, rfl⟩ := own_slice hown5
                have HAP := Lib.hid (apart_push H4.out HWN4.out HD4.out hgr5 hor5)
                have HOwn5 : Hid (w5.ownsRow w.heap.size 31 2 (.slice Aw5 (k + 1) cw5) (k + 1) (evc (E ++ [(2, 0)]))) := by
                  rw [evc_append]
                  exact hown5
                have HW5 : Hid (Below w.heap.size w w5) := (HW4.out.alloc HW4.out.size _).grown hgr5 (by simp; omega) (fun i hi => (own_block_le HWN4.out hi).1)
                have hs5 := HW5.out.size
                clear hown5 hgr5 hor5 HRd HOw HOne
                refine Lib.hid ?_
                go_wp2_with (go_at_call 13; refine (events_any _ g _ _ _ (E ++ [(2, 0)]) _ HAP.out.1 (by have := HEL4.out; omega)).mono ?_; rintro e w6 ⟨v6, rfl, h6, hb6⟩; refine Hid.out ?_)
                rw [HEL4.out] at h6
                obtain ⟨A6, c6, rfl⟩ := own_slice h6
                have HR6 : Hid (Reads w6 w6.heap.size 2 A6 (k + 1) (evc (E ++ [(2, 0)]))) := Lib.hid (Reads.of_own h6)
                have HR5 : Hid (Reads w6 w6.heap.size 2 Aw5 (k + 1) (evc (E ++ [(2, 0)]))) := Lib.hid (Reads.of_own (own_kept HOwn5.out fun i hi => hb6.block i (own_block_le HOwn5.out hi).2))
                obtain ⟨g6, hA6, hg6, cur6, hcur6, hsz6⟩ : ∃ g6, A6 = some ⟨g6, 0, none⟩ ∧ w5.heap.size ≤ g6 ∧ ∃ cur, Blk w6 g6 31 cur ∧ (k + 1) * 2 ≤ cur.size := by
                  rcases h6.2 with ⟨_, h0⟩ | ⟨g6, cap, cur, e, hg, hb, hnc, _, hcs, _⟩
                  · omega
                  · injection e with e1 e2 e3
                    exact ⟨g6, e1, hg, cur, hb, by rw [hcs]; exact Nat.mul_le_mul_right 2 hnc⟩
                subst hA6
                have HB6 := Lib.hid hb6
                have HC6 := Lib.hid hcur6
                have hsam : sam (E ++ [(2, 0)]) (E ++ [(2, 0)]) = true := by simp [sam]
                have HSam := Lib.hid hsam
                clear h6 hb6 hcur6 hsam
                refine Lib.hid ?_
                go_wp2_with (go_at_call 14; refine (refsame_any _ _ _ (k + 1) (k + 1) c6 cw5 _ _ _ HR6.out HR5.out HEL4.out HEL4.out (by unfold maxLen; omega) (by unfold maxLen; omega)).mono ?_; rintro e w7 ⟨rfl, q7, rfl⟩; rw [HSam.out]; refine Hid.out ?_)
                have HC7 : Hid (∃ cur, Blk (w6.drewN q7) g6 31 cur ∧ (k + 1) * 2 ≤ cur.size) := ⟨cur6, HC6.out.drewN q7, hsz6⟩
                have HB7 : Hid (Below w5.heap.size w5 (w6.drewN q7)) := below_drewN HB6.out q7
                generalize w6.drewN q7 = w7 at HC7 HB7 ⊢
                refine Lib.hid ?_
                go_wp2
                go_loopw [79] (fun i wq => ∃ t : Nat, t ≤ k + 1 ∧ i = .int .i64 t ∧ Hid (Below w5.heap.size w5 wq) ∧ Hid (∃ cur, Blk wq g6 31 cur ∧ (k + 1) * 2 ≤ cur.size)) (fun i _ => k + 1 - (intOf i).toNat)
                case atStart => exact ⟨0, Nat.zero_le _, rfl, HB7, HC7⟩
                case round =>
                  obtain ⟨t, ht, rfl, HBq, HCq⟩ := hrel
                  by_cases htl : t < k + 1
                  · obtain ⟨cur, hcur, hsz⟩ := HCq.out
                    have hx : wr.cell? ⟨g6, t * 2 + 1, none⟩ = some cur[t * 2 + 1] := by rw [hcur.cell]; exact Array.getElem?_eq_getElem (by omega)
                    have hf : wr.frozen? ⟨g6, t * 2 + 1, none⟩ = false := hcur.frozen _
                    have HCur := Lib.hid hcur
                    clear hcur
                    go_wp2
                    go_roundw
                    case rel => exact ⟨t + 1, by omega, by go_num, HBq.out.setCell (p := ⟨g6, t * 2 + 1, none⟩) hg6 _, ⟨_, HCur.out.set_ (t * 2 + 1) _, by simpa using hsz⟩⟩
                    case measure => simp [intOf]; omega
                  · obtain rfl : t = k + 1 := by omega
                    have HTn := Lib.hid (HAP.out.1.below HBq.out)
                    have HDn := Lib.hid HAP.out.2
                    have HWn : Hid (Below w.heap.size w wr) := HW5.out.trans (HBq.out.mono hs5)
                    have HOn : Hid (wr.ownsRow w.heap.size 31 2 (.slice Aw5 (k + 1) cw5) (k + 1) (evc (E ++ [(2, 0)]))) := own_kept HOwn5.out fun i hi => HBq.out.block i (own_block_le HOwn5.out hi).2
                    clear htl ht
                    go_wp2
                    go_roundw
                    case rel => exact ⟨k + 1, a + 1, E ++ [(2, 0)], HKn, by omega, by omega, by omega, by go_num, by go_num, ⟨_, _, HTn, HDn⟩, HOn, HWn⟩
                    case measure => simp [intOf]; omega
            · have he : (o % 2 == 0) = false := by simpa using hev
              have HEv := Lib.hid hev
              clear hev
              have HKn : Hid (keepAt xs os (k + 1) = (a, E ++ [(1, o)])) := by
                have h := keepAt_succ (xs := xs) HX.out
                rw [HK.out] at h
                simp only [keepStep, HEv.out, if_false] at h
                exact h
              go_wp2_with (go_at_call 12; refine (out_any _ g tv ev _ E o _ HT.out hbz (by have := HEL.out; omega)).mono ?_; rintro e w4 ⟨ev4, rfl, h4, hb4, ho4⟩; refine Hid.out ?_)
              have H4 := Lib.hid h4
              have hap := apart_only HWN.out HT.out.blk (by decide) HD.out ho4
              have HWN4 := Lib.hid hap.1
              have HD4 := Lib.hid hap.2
              have HW4 : Hid (Below w.heap.size w w4) := HW.out.trans (hb4.mono (by omega))
              clear h4 hb4 ho4 hap
              have HEL4 : Hid ((E ++ [(1, o)]).length = k + 1) := Lib.hid (by have := HEL.out; rw [List.length_append]; simp; omega)
              have HRd : Hid (Reads (w4.alloc (.cells #[.int .i64 1, .int .u64 o] 31)) (w4.heap.size + 1) 2 (some ⟨w4.heap.size, 0, none⟩) 1 [.int .i64 1, .int .u64 o]) := Lib.hid (one_reads w4 31 (1, o))
              have HOw := Lib.hid (HWN4.out.alloc (.cells #[.int .i64 1, .int .u64 o] 31))
              have HOne : Hid (∀ u ∈ [Value.int .i64 1, Value.int .u64 o], u.oneCell' = true) := Lib.hid (evOne_one (1, o))
              have hs4 := HW4.out.size
              refine Lib.hid ?_
              go_wp2_with (at_builtin; refine wpList_append_any _ rfl _ _ 27 rfl w.heap.size 31 i1 (.agg #[.int .i64 0, .int .u64 0]) 2 16 Tryd.underlying27 hi1 hy0 hy1 hy2 rfl (by decide) _ k (evc E) rfl HOw.out (w4.heap.size + 1) (some ⟨w4.heap.size, 0, none⟩) 1 1 [.int .i64 1, .int .u64 o] rfl HRd.out HOne.out (by unfold maxLen; omega) (by omega) (by simp; omega) ?_; intro v5 w5 hown5 hgr5 hor5; refine Hid.out ?_)
              obtain ⟨Aw5, cw5, rfl⟩ := own_slice hown5
              have HAP := Lib.hid (apart_push H4.out HWN4.out HD4.out hgr5 hor5)
              have HOwn5 : Hid (w5.ownsRow w.heap.size 31 2 (.slice Aw5 (k + 1) cw5) (k + 1) (evc (E ++ [(1, o)]))) := by
                rw [evc_append]
                exact hown5
              have HW5 : Hid (Below w.heap.size w w5) := (HW4.out.alloc HW4.out.size _).grown hgr5 (by simp; omega) (fun i hi => (own_block_le HWN4.out hi).1)
              have hs5 := HW5.out.size
              clear hown5 hgr5 hor5 HRd HOw HOne
              refine Lib.hid ?_
              go_wp2_with (go_at_call 13; refine (events_any _ g _ _ _ (E ++ [(1, o)]) _ HAP.out.1 (by have := HEL4.out; omega)).mono ?_; rintro e w6 ⟨v6, rfl, h6, hb6⟩; refine Hid.out ?_)
              rw [HEL4.out] at h6
              obtain ⟨A6, c6, rfl⟩ := own_slice h6
              have HR6 : Hid (Reads w6 w6.heap.size 2 A6 (k + 1) (evc (E ++ [(1, o)]))) := Lib.hid (Reads.of_own h6)
              have HR5 : Hid (Reads w6 w6.heap.size 2 Aw5 (k + 1) (evc (E ++ [(1, o)]))) := Lib.hid (Reads.of_own (own_kept HOwn5.out fun i hi => hb6.block i (own_block_le HOwn5.out hi).2))
              obtain ⟨g6, hA6, hg6, cur6, hcur6, hsz6⟩ : ∃ g6, A6 = some ⟨g6, 0, none⟩ ∧ w5.heap.size ≤ g6 ∧ ∃ cur, Blk w6 g6 31 cur ∧ (k + 1) * 2 ≤ cur.size := by
                rcases h6.2 with ⟨_, h0⟩ | ⟨g6, cap, cur, e, hg, hb, hnc, _, hcs, _⟩
                · omega
                · injection e with e1 e2 e3
                  exact ⟨g6, e1, hg, cur, hb, by rw [hcs]; exact Nat.mul_le_mul_right 2 hnc⟩
              subst hA6
              have HB6 := Lib.hid hb6
              have HC6 := Lib.hid hcur6
              have hsam : sam (E ++ [(1, o)]) (E ++ [(1, o)]) = true := by simp [sam]
              have HSam := Lib.hid hsam
              clear h6 hb6 hcur6 hsam
              refine Lib.hid ?_
              go_wp2_with (go_at_call 14; refine (refsame_any _ _ _ (k + 1) (k + 1) c6 cw5 _ _ _ HR6.out HR5.out HEL4.out HEL4.out (by unfold maxLen; omega) (by unfold maxLen; omega)).mono ?_; rintro e w7 ⟨rfl, q7, rfl⟩; rw [HSam.out]; refine Hid.out ?_)
              have HC7 : Hid (∃ cur, Blk (w6.drewN q7) g6 31 cur ∧ (k + 1) * 2 ≤ cur.size) := ⟨cur6, HC6.out.drewN q7, hsz6⟩
              have HB7 : Hid (Below w5.heap.size w5 (w6.drewN q7)) := below_drewN HB6.out q7
              generalize w6.drewN q7 = w7 at HC7 HB7 ⊢
              refine Lib.hid ?_
              go_wp2
              go_loopw [79] (fun i wq => ∃ t : Nat, t ≤ k + 1 ∧ i = .int .i64 t ∧ Hid (Below w5.heap.size w5 wq) ∧ Hid (∃ cur, Blk wq g6 31 cur ∧ (k + 1) * 2 ≤ cur.size)) (fun i _ => k + 1 - (intOf i).toNat)
              case atStart => exact ⟨0, Nat.zero_le _, rfl, HB7, HC7⟩
              case round =>
                obtain ⟨t, ht, rfl, HBq, HCq⟩ := hrel
                by_cases htl : t < k + 1
                · obtain ⟨cur, hcur, hsz⟩ := HCq.out
                  have hx : wr.cell? ⟨g6, t * 2 + 1, none⟩ = some cur[t * 2 + 1] := by rw [hcur.cell]; exact Array.getElem?_eq_getElem (by omega)
                  have hf : wr.frozen? ⟨g6, t * 2 + 1, none⟩ = false := hcur.frozen _
                  have HCur := Lib.hid hcur
                  clear hcur
                  go_wp2
                  go_roundw
                  case rel => exact ⟨t + 1, by omega, by go_num, HBq.out.setCell (p := ⟨g6, t * 2 + 1, none⟩) hg6 _, ⟨_, HCur.out.set_ (t * 2 + 1) _, by simpa using hsz⟩⟩
                  case measure => simp [intOf]; omega
                · obtain rfl : t = k + 1 := by omega
                  have HTn := Lib.hid (HAP.out.1.below HBq.out)
                  have HDn := Lib.hid HAP.out.2
                  have HWn : Hid (Below w.heap.size w wr) := HW5.out.trans (HBq.out.mono hs5)
                  have HOn : Hid (wr.ownsRow w.heap.size 31 2 (.slice Aw5 (k + 1) cw5) (k + 1) (evc (E ++ [(1, o)]))) := own_kept HOwn5.out fun i hi => HBq.out.block i (own_block_le HOwn5.out hi).2
                  clear htl ht
                  go_wp2
                  go_roundw
                  case rel => exact ⟨k + 1, a, E ++ [(1, o)], HKn, by omega, by omega, by omega, by go_num, by go_num, ⟨_, _, HTn, HDn⟩, HOn, HWn⟩
                  case measure => simp [intOf]; omega
          · have h50' : 50 ≤ k := by omega
            go_wp2_with (first
              | (go_at_call 12; refine (out_nil _ _).mono ?_; rintro e w' ⟨rfl, rfl⟩)
              | (go_at_call 11; refine (in_nil _).mono ?_; rintro e w' ⟨rfl, rfl⟩)
              | (go_at_call 13; refine (events_nil _).mono ?_; rintro e w' ⟨rfl, rfl⟩))
            go_ret
            exact ⟨rfl, HW.out⟩
        · obtain rfl : k = m := by omega
          clear hlt
          go_wp2_with (first
            | (go_at_call 12; refine (out_nil _ _).mono ?_; rintro e w' ⟨rfl, rfl⟩)
            | (go_at_call 11; refine (in_nil _).mono ?_; rintro e w' ⟨rfl, rfl⟩)
            | (go_at_call 13; refine (events_nil _).mono ?_; rintro e w' ⟨rfl, rfl⟩))
          go_ret
          exact ⟨rfl, HW.out⟩
end Go.Proofs.YtjmfbmnhkoeceaaDoor
