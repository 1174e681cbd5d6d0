/-
  Package live: spread.
-/
import Derived.Test.YtmfdaeicbaibeaaDoorLSp0
import Derived.Deep.LoopGhost
namespace Go.Proofs.YtmfdaeicbaibeaaDoor
set_option linter.unusedVariables false
set_option linter.unusedSimpArgs false
open Go.ChangeShapes Go.WideShapes Go.ChangeAt Go.RowKit

theorem llens (n : Nd) : (writesOf n).length ≤ 2 := by
  have := addL_len [] (writeF n)
  unfold writesOf
  have h2 : (writeF n).length ≤ 2 := by unfold writeF; split <;> (try split) <;> simp
  simp at this
  omega
/-- a row is cut -/
theorem lown_cut {W : World} {base size n k c : Nat} {e : TypeId} {A : Option Addr} {xs : List Value} (h : W.ownsRow base e size (.slice A n c) n xs) (hk : k ≤ n) : W.ownsRow base e size (.slice A k c) k (xs.take (k * size)) := by
  have hl := h.1
  refine ⟨by rw [List.length_take, hl]; exact Nat.min_eq_left (Nat.mul_le_mul_right _ hk), ?_⟩
  rcases h.2 with ⟨he, h0⟩ | ⟨g, cap, cur, he, hb, hh, hnc, hcm, hcs, hx⟩
  · injection he with h1 h2 h3
    subst h1 h3
    have : k = 0 := by omega
    subst this
    exact .inl ⟨rfl, rfl⟩
  · injection he with h1 h2 h3
    subst h1 h3
    refine .inr ⟨g, c, cur, rfl, hb, hh, by omega, hcm, hcs, ?_⟩
    rw [← hx, List.take_take, Nat.min_eq_left (Nat.mul_le_mul_right _ hk)]
theorem lown_cut1 {W : World} {base c L : Nat} {A : Option Addr} {init : List Int} {x : Int} (h : W.ownsRow base 3 1 (.slice A (L + 1) c) (L + 1) (i64c (init ++ [x]))) (hL : init.length = L) : W.ownsRow base 3 1 (.slice A L c) L (i64c init) := by
  have h1 := lown_cut h (Nat.le_succ L)
  rw [Nat.mul_one, i64c_append, List.take_append_of_le_length (by rw [length_i64c]; omega), List.take_of_length_le (by rw [length_i64c]; omega)] at h1
  exact h1
theorem all_in (x : List Int) : ∀ y ∈ i64c x, y.oneCell' = true := i64c_one x
set_option maxRecDepth 100000 in
set_option maxHeartbeats 6400000 in
theorem spread_any {ns : List Nd} {nd : Nd} (E base bb R1 R2 R n q m : Nat) (vs : Nat → Value) (ls : Nat → List Int) (wss : List (List Nat)) (p r : Nat) (w : World) (h : BwI w E base bb R1 R2 R n q m vs ls wss) (hns : ns.length = n) (hn : n ≤ 4096)
    (hlb : ∀ i, i < n → ls (2 * i) = (befK n ns n).getD i []) (hlw : ∀ i x, ns[i]? = some x → ls (2 * i + 1) = writesOf x) (hv : NextIn ns) (hp : p < m) (hr : ns[r]? = some nd) (hpr : (p : Int) ∈ readsOf nd)
    (hc : ∀ a, hasS wss a p = true → ∀ (i : Nat) n, ns[i]? = some n → (p : Int) ∉ writesOf n → (a : Int) ∈ nextsOf n → hasS wss i p = true) :
    Calls Tryd.prog 42 #[.pointer (some ⟨bb, 0, none⟩), .int .i64 p, .int .i64 r] w fun e w' => e = .returned (.tuple #[]) ∧ ∃ wss', BwI w' E base bb R1 R2 R n q m vs ls wss' ∧ KpS w w' w.heap.size R n ∧ SpI ns p r wss wss' [] := by
  have HSP := Lib.hid (SpI.start hr hpr hc)
  have HO0 := Lib.hid (lit_own w 3 (i64c [(r : Int)]) 1 rfl)
  have HB0 := Lib.hid (h.alloc (.cells #[.int .i64 r] 3))
  have HK0 : Hid (KpS w (w.alloc (.cells #[.int .i64 r] 3)) w.heap.size R n) := Lib.hid ((KpS.refl w w.heap.size R n).below (E' := w.heap.size) ((Below.refl _ _).alloc (Nat.le_refl _) _) (Nat.le_refl _))
  have HEE := Lib.hid h.eE
  have hq : p / 64 < q := by have := h.sets.qm; omega
  have hm : m ≤ 1024 := h.sets.mb
  have hqm : m ≤ 64 * q := by have := h.sets.qm; omega
  have HLB := Lib.hid hlb
  have HLW := Lib.hid hlw
  have HNS := Lib.hid hns
  have HBM := Lib.hid (fun a y => befK_mem hv a y n (by omega))
  have HBE := Lib.hid (fun a => befK_el n ns a n)
  have HST := Lib.hid (owes_start hn wss p)
  have HHR : Hid (∀ i, i < n → R + 2 + 2 * i < E) := Lib.hid h.es
  rw [hns] at HBM
  clear h hlb hlw hns hv hr hpr hc
  go_enter Tryd.func42, Tryd.ntmps42
  go_wp2
  go_loopg [6] (owes n wss p 1) (fun gk s wr => ∃ (wss2 : List (List Nat)) (wait : List Int) (A : Option Addr) (M c : Nat), gk = owes n wss2 p M ∧ wait.length = M ∧ s = .slice A M c ∧ gk ≤ 33554433 ∧ Hid (BwI wr E base bb R1 R2 R n q m vs ls wss2) ∧ Hid (KpS w wr w.heap.size R n) ∧ Hid (wr.ownsRow w.heap.size 3 1 (.slice A M c) M (i64c wait)) ∧ Hid (SpI ns p r wss wss2 wait))
  case atStart => exact ⟨wss, [(r : Int)], _, 1, 1, rfl, rfl, rfl, HST.out, HB0, HK0, HO0, HSP⟩
  case round =>
    clear HB0 HK0 HO0 HSP HST
    obtain ⟨wss2, wait, A, M, c, hgk, hwl, rfl, hgb, HB, HK, HO, HS⟩ := hrel
    by_cases hM : M = 0
    · subst hM
      have HF : Hid (SpI ns p r wss wss2 []) := by
        have : wait = [] := List.eq_nil_of_length_eq_zero hwl
        rw [this] at HS
        exact HS
      go_wp2
      go_end0
      exact ⟨rfl, wss2, HB.out, HK.out, HF.out⟩
    · have hMl : M ≤ 33554433 := by have := owes_le n wss2 p M; omega
      obtain ⟨init, x, rfl⟩ := list_last (l := wait) (by omega)
      obtain ⟨L, hL⟩ : ∃ L, L = init.length := ⟨_, rfl⟩
      have hML : M = L + 1 := by rw [← hwl, List.length_append, ← hL]; rfl
      have HML := Lib.hid hML
      have hm1 : (M : Int) - 1 = (L : Int) := by omega
      have hLM : L < M := by omega
      obtain ⟨k, rfl, hkn, _⟩ := HS.out.wl x (by simp)
      rw [HNS.out] at hkn
      obtain ⟨bx, ox, x', hxe, hbx, HXX, x1⟩ := (Reads.of_own HO.out).int hLM
      obtain rfl : x' = (k : Int) := by
        have h1 := HXX.out
        rw [hL, List.getElem?_append_right (Nat.le_refl _), Nat.sub_self] at h1
        simpa using h1.symm
      have hcap := own_cap HO.out
      have HC : Hid (wr.ownsRow w.heap.size 3 1 (.slice A L c) L (i64c init)) := Lib.hid (by
        have h1 := HO.out
        rw [hML] at h1
        exact lown_cut1 h1 hL.symm)
      have HLL := Lib.hid hL
      have hGK : Hid (gk = owes n wss2 p (L + 1)) := Lib.hid (by rw [hgk, hML])
      have b2 : wr.cell? ⟨bb, 2, none⟩ = some (.slice (some ⟨R, 0, none⟩) n n) := HB.out.box.cell 2
      have s0 : wr.cell? ⟨R, k, none⟩ = some (.pointer (some ⟨R + 2 + 2 * k, 0, none⟩)) := by rw [HB.out.sets.row.cell, rowA_at _ hkn]
      have hle : (wss2.getD k []).length = q := HB.out.sets.wf.each _ (getD_mem _ (by rw [HB.out.sets.wf.len]; exact hkn))
      have HLT : Hid (∀ x ∈ wss2.getD k [], x < 18446744073709551616) := Lib.hid (HB.out.sets.wf.lt _ (getD_mem _ (by rw [HB.out.sets.wf.len]; exact hkn)))
      rw [hxe] at HC ⊢
      clear hgk hwl hML hL hxe hM HO HXX
      rcases hhas : hasS wss2 k p with _ | _
      · have HAD := Lib.hid (ladd_new (R + 2 + 2 * k) (R + 1 + 2 * k) m q p (wss2.getD k []) wr (HB.out.sets.box k hkn) (HB.out.sets.words k hkn) hle HLT.out (by omega) hp hqm hhas)
        have HW := Lib.hid (HB.out.add hkn hp)
        have HKW := Lib.hid (HK.out.set hkn (p / 64) (.int .u64 (((addW (wss2.getD k []) p).getD (p / 64) 0 : Nat) : Int)))
        have HCW := Lib.hid (own_far HC.out (HB.out.sets.words k hkn) (by decide) (p / 64) (.int .u64 (((addW (wss2.getD k []) p).getD (p / 64) 0 : Nat) : Int)))
        obtain ⟨W2, hW2⟩ : ∃ W2, W2 = wr.setCell ⟨R + 1 + 2 * k, p / 64, none⟩ (.int .u64 (((addW (wss2.getD k []) p).getD (p / 64) 0 : Nat) : Int)) := ⟨_, rfl⟩
        rw [← hW2] at HAD HW HKW HCW
        have HSTEP : Hid (∀ b, b ≤ 2 * n → owes n (addS wss2 k p) p (L + b) < gk) := Lib.hid fun b hb => by
          rw [hGK.out]
          exact owes_step HB.out.sets.wf hkn hq hhas hb
        have HSS : Hid (SpI ns p r wss (addS wss2 k p) (init ++ keepB ns p (ls (2 * k)))) := Lib.hid (HS.out.step HB.out.sets.wf hkn hq (ls (2 * k)) (fun y => by
          rw [HLB.out k hkn, HBM.out k y]
          constructor
          · rintro ⟨i, _, h2, h3⟩
            exact ⟨i, h2, h3⟩
          · rintro ⟨i, h2, nd, h3, h4⟩
            exact ⟨i, by have := (List.getElem?_eq_some_iff.1 h3).1; rw [HNS.out] at this; exact this, h2, nd, h3, h4⟩))
        have HBK : Hid (∀ y ∈ ls (2 * k), ∃ i : Nat, y = i ∧ i < n ∧ ∃ nd, ns[i]? = some nd) := Lib.hid fun y hy => by
          rw [HLB.out k hkn, HBM.out k y] at hy
          obtain ⟨i, h1, h2, nd, h3, _⟩ := hy
          exact ⟨i, h2, h1, nd, h3⟩
        have hbl : (ls (2 * k)).length ≤ 2 * n := by rw [HLB.out k hkn]; exact HBE.out k
        obtain ⟨Ak, ck, hsk⟩ := HB.out.fam.slice (i := 2 * k) (by omega)
        have HSK := Lib.hid hsk
        obtain ⟨mk, hmk⟩ : ∃ x, x = (ls (2 * k)).length := ⟨_, rfl⟩
        have HMK := Lib.hid hmk
        rw [← hmk] at hbl hsk
        have HRK : Hid (∀ nq, (W2.drewN nq).cell? ⟨R1, k, none⟩ = some (.slice Ak mk ck)) := Lib.hid fun nq => by rw [((HW.out.drewN nq).r1).cell, rowA_at _ hkn, hsk]
        have HB0' : Hid (∀ nq, (W2.drewN nq).cell? ⟨bb, 0, none⟩ = some (.slice (some ⟨R1, 0, none⟩) n n)) := Lib.hid fun nq => ((HW.out.drewN nq).box).cell 0
        clear hsk hmk hhas hW2 HB HK HC hGK HS
        go_wp2_with (go_at_call 62; refine HAD.out.mono ?_; rintro e w5 ⟨rfl, nq, hw5⟩; rw [hw5]; clear hw5; have r0 := HRK.out nq; have b0 := HB0'.out nq)
        have HW5 := Lib.hid (HW.out.drewN nq)
        have HK5 := Lib.hid (HKW.out.drewN nq)
        have HC5 : Hid ((W2.drewN nq).ownsRow w.heap.size 3 1 (.slice (some ⟨bx, ox, none⟩) L c) L (i64c init)) := Lib.hid HCW.out
        obtain ⟨W5, hW5⟩ : ∃ W5, W5 = W2.drewN nq := ⟨_, rfl⟩
        rw [← hW5] at HW5 HK5 HC5 ⊢
        clear b2 s0 x1 r0 b0 hW5 HRK HB0' HW HKW HCW HAD
        go_loopw [6, 44] (fun v i wr => ∃ (j ll : Nat) (A : Option Addr) (c : Nat), j ≤ mk ∧ i = .int .i64 j ∧ ll = (keepB ns p ((ls (2 * k)).take j)).length ∧ ll ≤ j ∧ v = .slice A (L + ll) c ∧ Hid (BwI wr E base bb R1 R2 R n q m vs ls (addS wss2 k p)) ∧ Hid (KpS w wr w.heap.size R n) ∧ Hid (wr.ownsRow w.heap.size 3 1 (.slice A (L + ll) c) (L + ll) (i64c (init ++ keepB ns p ((ls (2 * k)).take j))))) (fun _ i _ => mk - (intOf i).toNat)
        case atStart => exact ⟨0, 0, _, c, by omega, rfl, by simp [keepB], by omega, rfl, HW5, HK5, by simpa [keepB] using HC5⟩
        case round =>
          clear HW5 HK5 HC5
          obtain ⟨j, ll, A2, c2, hj, rfl, hll, hllj, rfl, HB, HK, HO⟩ := hrel
          have HLJ := Lib.hid hll
          clear hll
          by_cases hjl : j < mk
          · obtain ⟨by_, oy, y, hye, hby, HYY, y1⟩ := (Reads.of_own (by have h1 := HB.out.fam.own (2 * k) (by omega); rw [HSK.out] at h1; exact h1)).int (show j < (ls (2 * k)).length by rw [← HMK.out]; exact hjl)
            obtain ⟨i, rfl, hi, nd2, hnd2⟩ := HBK.out y (List.mem_of_getElem? HYY.out)
            have HTK := Lib.hid (take_at HYY.out)
            have HK1 := Lib.hid (keepB_one (p := p) hnd2)
            obtain ⟨Ai, ci, hsi⟩ := HB.out.fam.slice (i := 2 * i + 1) (by omega)
            have hwi : ls (2 * i + 1) = writesOf nd2 := HLW.out i nd2 hnd2
            obtain ⟨mi, hmi⟩ : ∃ x, x = (ls (2 * i + 1)).length := ⟨_, rfl⟩
            have b1 : wr.cell? ⟨bb, 1, none⟩ = some (.slice (some ⟨R2, 0, none⟩) n n) := HB.out.box.cell 1
            have r2 : wr.cell? ⟨R2, i, none⟩ = some (.slice Ai mi ci) := by rw [HB.out.r2.cell, rowA_at _ hi, hsi, hmi]
            have hml2 : mi ≤ 2 := by rw [hmi, hwi]; exact llens nd2
            have HCT := Lib.hid (contains_eq wr.heap.size Ai mi ci (ls (2 * i + 1)) p wr (by
              have h1 := HB.out.fam.own (2 * i + 1) (by omega)
              rw [hsi, ← hmi] at h1
              exact Reads.of_own h1) hmi.symm (by omega))
            rw [hwi] at HCT
            have HYE := Lib.hid hye
            rw [hye]
            clear hye hsi hmi hwi hnd2 HYY
            by_cases hcon : (p : Int) ∈ writesOf nd2
            · have H1 : Hid (decide ((p : Int) ∈ writesOf nd2) = true) := Lib.hid (decide_eq_true hcon)
              have HK2 : Hid (keepB ns p ((ls (2 * k)).take (j + 1)) = keepB ns p ((ls (2 * k)).take j)) := Lib.hid (by
                rw [HTK.out, keepB_snoc, HK1.out, if_pos hcon, List.append_nil])
              clear hcon
              go_wp2_with (go_at_call 63; refine HCT.out.mono ?_; rintro e w6 ⟨rfl, hw6⟩; rw [hw6]; clear hw6; rw [H1.out])
              go_roundw
              case rel => exact ⟨j + 1, ll, A2, c2, by omega, by go_num, by rw [HK2.out]; exact HLJ.out, by omega, rfl, HB, HK, by rw [HK2.out]; exact HO⟩
              case measure => simp [intOf]; omega
            · have H1 : Hid (decide ((p : Int) ∈ writesOf nd2) = false) := Lib.hid (decide_eq_false hcon)
              have HK2 : Hid (keepB ns p ((ls (2 * k)).take (j + 1)) = keepB ns p ((ls (2 * k)).take j) ++ [(i : Int)]) := Lib.hid (by
                rw [HTK.out, keepB_snoc, HK1.out, if_neg hcon])
              have hEw := HB.out.eE
              have hwz := HK.out.size
              clear hcon
              go_wp2_with (first
                | (go_at_call 63; refine HCT.out.mono ?_; rintro e w6 ⟨rfl, hw6⟩; rw [hw6]; clear hw6; rw [H1.out])
                | (at_builtin; refine app_int rfl (.tmp 58) (.tmp 60) rfl w.heap.size _ _ _ rfl (own_alloc HO.out _) (wr.heap.size + 1) (some ⟨wr.heap.size, 0, none⟩) 1 1 [.int .i64 i] rfl (one_reads wr _ _ 1 rfl) (ints_oneCell .i64 [(i : Int)]) (by omega) (by simp; omega) ?_; intro v' w8 hown hgr hor; obtain ⟨A8, c8, rfl⟩ := own_slice hown; have HO8 := Lib.hid hown; have HB8 : Hid (Below w.heap.size wr w8) := Lib.hid (((Below.refl _ _).alloc (by omega) _).grown hgr (by simp; omega) fun g hg => (own_block_le HO.out hg).1); clear hown hgr hor))
              go_roundw
              case rel =>
                refine ⟨j + 1, ll + 1, A8, c8, by omega, by go_num, by rw [HK2.out, List.length_append, ← HLJ.out]; rfl, by omega, by rw [Nat.add_assoc], Lib.hid (HB.out.on (HB8.out.mono HEE.out)), Lib.hid (HK.out.below HB8.out (Nat.le_refl _)), ?_⟩
                rw [HK2.out, ← List.append_assoc, i64c_append]
                exact HO8
              case measure => simp [intOf]; omega
          · obtain rfl : mk = j := by omega
            have HTA : Hid ((ls (2 * k)).take mk = ls (2 * k)) := Lib.hid (List.take_of_length_le (by rw [HMK.out]; exact Nat.le_refl _))
            rw [HTA.out] at HLJ HO
            go_wp2
            go_roundg (owes n (addS wss2 k p) p (L + ll))
            case measure => exact HSTEP.out ll (by omega)
            case rel => exact ⟨_, _, A2, L + ll, c2, rfl, by rw [List.length_append, ← HLL.out, ← HLJ.out], rfl, by have := HSTEP.out ll (by omega); omega, HB, HK, HO, HSS⟩
      · have HAD := Lib.hid (ladd_there (R + 2 + 2 * k) (R + 1 + 2 * k) m q p (wss2.getD k []) wr (HB.out.sets.box k hkn) (HB.out.sets.words k hkn) hle HLT.out (by omega) hp hqm hhas)
        have HSS := Lib.hid (HS.out.skip hhas)
        have HLTG : Hid (owes n wss2 p L < gk) := Lib.hid (by rw [hGK.out]; exact owes_skip n wss2 p L)
        clear hhas HS
        go_wp2_with (go_at_call 62; refine HAD.out.mono ?_; rintro e w5 ⟨rfl, nq, hw5⟩; rw [hw5]; clear hw5)
        go_roundg (owes n wss2 p L)
        case measure => exact HLTG.out
        case rel => exact ⟨wss2, init, _, L, c, rfl, HLL.out.symm, rfl, by have := HLTG.out; omega, Lib.hid (HB.out.drewN nq), Lib.hid (HK.out.drewN nq), Lib.hid HC.out, HSS⟩
end Go.Proofs.YtmfdaeicbaibeaaDoor
