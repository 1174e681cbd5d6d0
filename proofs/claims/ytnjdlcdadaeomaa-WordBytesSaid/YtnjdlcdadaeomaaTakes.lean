/-
  The walk through WordTakes: words put one behind the other are taken each from its place.
-/
import Derived.Test.YtnjdlcdadaeomaaBytesM
import Derived.Laws.AppendOwnNone
namespace Go.Proofs.Ytnjdlcdadaeomaa
open Go.ChangeShapes Go.WideShapes Go.ChangeAt Go.RowKit

theorem Try.info22 : (Try.prog.info? 22).map (fun i => (i.zero, i.size, i.bytes)) = some (some (.int .u64 0), 1, 8) := by kernel_rfl

theorem take_at (b off len cap : Nat) (x : Int) (i : Nat) (hx : x = i) (l : List Int) (w : World) (hl : l.length = len) (hc : ∀ j, j < len → w.cell? ⟨b, off + j, none⟩ = some (.int .u8 (l.getD j 0))) (hb : AreBytes l) (hi : i + 8 ≤ len) (hlen : len ≤ maxLen) :
    Calls Try.prog 14 #[.slice (some ⟨b, off, none⟩) len cap, .int .i64 x] w fun e w' => e = .returned (.tuple #[.int .u64 (take8 l i 8), .bool true]) ∧ w = w' := by
  subst hx
  exact take_in b off len cap i l w hl hc hb hi hlen

/-- 'append([]byte{}, ahead...)', ahead whatever: a new row that holds ahead's bytes. -/
theorem wpList_append_fresh {ops : Array Oper} {rest : List Oper} {o : Oper} {a : Act} {Q : Exit → Act → World → Prop} {w0 w1 : World} (hgd : o.guard = none) (s x : Operand)
    (ho : o.op = .call { callee := .builtin .append, args := #[s, x], argTypes := #[32, 32] })
    (hs : a.eval s = .slice (some ⟨w1.heap.size, 0, none⟩) 0 0) (ao : Option Addr) (m c : Nat) (l : List Int) (hx : a.eval x = .slice ao m c)
    (hc : ao = none → c = 0) (hl : Holds .u8 w1 ao m l) (hm : m ≤ 140737488351232) (hbel : Below w0.heap.size w0 w1)
    (h : ∀ g cap w', Holds .u8 w' (some ⟨g, 0, none⟩) m l → Below w0.heap.size w0 w' → wpList Try.prog ops Q rest (a.put o.dst (.slice (some ⟨g, 0, none⟩) m cap)) w') :
    wpList Try.prog ops Q (o :: rest) a (w1.alloc (.cells #[] 5)) := by
  obtain ⟨i0, hi, hz0, hz1, hz2⟩ := info_parts Try.info5
  have hb2 : Below w0.heap.size w0 (w1.alloc (.cells #[] 5)) := hbel.alloc hbel.size _
  have hown : (w1.alloc (.cells #[] 5)).ownsRow w1.heap.size 5 1 (.slice (some ⟨w1.heap.size, 0, none⟩) 0 0) 0 [] := World.ownsRow_lit w1 #[] 0 (Nat.le_refl _) (Nat.zero_le _) rfl
  have hll := hl.1
  cases ao with
  | none =>
    obtain rfl : c = 0 := hc rfl
    obtain rfl : m = 0 := by
      rcases Nat.eq_zero_or_pos m with h0 | h0
      · exact h0
      · obtain ⟨b, off, e, _⟩ := hl.2 h0; cases e
    refine wpList_append_own_none hgd s x 32 ho w1.heap.size 5 i0 1 Try.underlying32 hi _ 0 [] hs hown hx ?_
    exact h _ _ _ ⟨hll, fun h0 => absurd h0 (by omega)⟩ hb2
  | some ad =>
    refine wpList_append_own (P := Try.prog) _ hgd s x 32 ho w1.heap.size 5 i0 (.int .u8 0) 1 1 Try.underlying32 hi hz0 hz1 hz2 rfl (by decide) _ 0 [] hs hown ad m c (l.map (Value.int .u8)) hx (by simp [hll]) ?_ ?_ (by unfold maxLen; omega) (by omega) (by simp) ?_
    · intro j u hj
      have hjl : j < l.length := by
        rcases Nat.lt_or_ge j l.length with h' | h'
        · exact h'
        · rw [List.getElem?_eq_none (by simpa using h')] at hj; cases hj
      obtain ⟨b, off, e, hb, hcell⟩ := hl.2 (by omega)
      obtain rfl : ad = ⟨b, off, none⟩ := by simpa using e
      have ea : (⟨b, off, none⟩ : Addr).add j = ⟨b, off + j, none⟩ := by simp [Addr.add]
      have hold := ((Below.refl w1.heap.size w1).alloc (Nat.le_refl _) (.cells #[] 5)).cell (p := ⟨b, off + j, none⟩) hb
      rw [ea, hold, hcell j (by omega)]
      simp [hjl] at hj
      simp [hjl, hj]
    · intro u hu
      simp at hu
      obtain ⟨x, _, rfl⟩ := hu
      rfl
    · intro v' w' hown' hgr hnil
      rcases hown'.2 with ⟨h1, _⟩ | ⟨g, cap, cur, rfl, hg, hblk, hcap, _, hcs, htake⟩
      · exact absurd (hnil.1 h1).1 (by simp)
      · have e0 : (0 : Nat) + m = m := Nat.zero_add m
        rw [e0] at htake hcap ⊢
        refine h g cap w' ⟨hll, fun h0 => ⟨g, 0, rfl, (Array.getElem?_eq_some_iff.1 hblk).1, fun j hj => ?_⟩⟩ (hb2.grown hgr hb2.size (fun k hk => ?_))
        · rw [cell_of_row _ _ _ _ _ _ hblk]
          have hj2 : cur.toList[j]? = (cur.toList.take (m * 1))[j]? := by rw [List.getElem?_take, if_pos (by omega)]
          rw [Nat.zero_add, ← Array.getElem?_toList, hj2, htake]
          have hjl : j < l.length := by omega
          simp [hjl]
        · simp [Value.ownBlock] at hk
          subst hk
          exact hbel.size

set_option maxHeartbeats 1600000 in
theorem takes_walk (b0 off0 n0 c0 : Nat) (zs : List Int) (ao1 : Option Addr) (n1 c1 : Nat) (l : List Int) (w : World)
    (hb0 : b0 < w.heap.size) (hc0 : ∀ j, j < n0 → w.cell? ⟨b0, off0 + j, none⟩ = some (.int .u64 (zs.getD j 0))) (hn0 : n0 ≤ c0) (hc0m : c0 ≤ 9223372036854775807)
    (hz : zs.length = n0) (hw : ∀ j, j < n0 → isW (zs.getD j 0))
    (hc1 : ao1 = none → c1 = 0) (hh : Holds .u8 w ao1 n1 l) (hlb : ∀ x ∈ l, 0 ≤ x ∧ x ≤ 255) (hr1 : n1 ≤ 140737488351232) :
    Calls Try.prog 9 #[.slice (some ⟨b0, off0, none⟩) n0 c0, .slice ao1 n1 c1] w fun e w' => e = .returned (.bool true) ∧ Below w.heap.size w w' := by
  obtain ⟨i0, hi, hz0, hz1, hz2⟩ := info_parts Try.info5
  have HC := Lib.hid hc0
  have HW := Lib.hid hw
  have HH := Lib.hid hh
  have HZ := Lib.hid hz
  clear hc0 hw hh hz
  by_cases h60 : n0 ≤ 60
  · go_enter Try.func9, Try.ntmps9
    go_wp2_with (first
      | (go_at_call 10; refine (first_any _).mono ?_; rintro e w1 ⟨rfl, hb⟩)
      | (at_builtin; refine wpList_append_fresh (w0 := w) rfl _ _ rfl rfl ao1 n1 c1 l rfl hc1 (HH.out.below hb) hr1 hb ?_; intro g cap w2 hold hbel))
    go_loopw [6, 27] (fun v i wr => ∃ k : Nat, k ≤ n0 ∧ i = .int .i64 k ∧ ∃ g' cap', v = .slice (some ⟨g', 0, none⟩) (n1 + 8 * k) cap' ∧ Hid (Holds .u8 wr (some ⟨g', 0, none⟩) (n1 + 8 * k) (putAll l zs k)) ∧ Below w.heap.size w wr) (fun _ i _ => n0 - (intOf i).toNat)
    case atStart => exact ⟨0, Nat.zero_le _, rfl, g, cap, rfl, by rw [putAll_zero]; exact hold, hbel⟩
    case round =>
      obtain ⟨k, hk, rfl, g', cap', rfl, HG, hbr⟩ := hrel
      by_cases hlt : k < n0
      · obtain ⟨z, HE⟩ : ∃ z, Hid (z = zs.getD k 0) := ⟨_, rfl⟩
        have hcx : wr.cell? ⟨b0, off0 + k, none⟩ = some (.int .u64 z) := by rw [hbr.cell (p := ⟨b0, off0 + k, none⟩) hb0, HE.out]; exact HC.out k (by omega)
        have hz : isW z := by rw [HE.out]; exact HW.out k (by omega)
        go_wp2_with (go_at_call 13; refine (put_any _ (n1 + 8 * k) cap' (putAll l zs k) z _ HG.out (by omega) hz).mono ?_; rintro e w3 ⟨g3, rfl, hg3, hblk, hb3⟩)
        go_roundw
        case rel => exact ⟨k + 1, by omega, by go_num, g3, _, by rw [Nat.mul_add, ← Nat.add_assoc], by have h := holds_put HG.out.1 hblk; rw [HE.out, putAll_step _ _ _ (by have := HZ.out; omega)] at h; rw [Nat.mul_add, ← Nat.add_assoc]; exact h, hbr.trans (hb3.mono hbr.size)⟩
        case measure => simp [intOf]; omega
      · obtain rfl : k = n0 := by omega
        go_wp2
        have hcg : 0 < n1 + 8 * k → ∀ j, j < n1 + 8 * k → wr.cell? ⟨g', 0 + j, none⟩ = some (.int .u8 ((putAll l zs k).getD j 0)) := by
          intro h0
          obtain ⟨b, off, e, _, hcc⟩ := HG.out.2 h0
          simp only [Option.some.injEq, Addr.mk.injEq, and_true] at e
          obtain ⟨rfl, rfl⟩ := e
          exact hcc
        have HCG := Lib.hid hcg
        have hpb := areBytes_of (putAll_bytes (l := l) (zs := zs) (k := k) hlb)
        have HPB := Lib.hid hpb
        clear hcg hpb hlb
        obtain ⟨wo, rfl⟩ : ∃ wo : World, wo = wr := ⟨_, rfl⟩
        go_loop [37] (fun i => ∃ j : Nat, j ≤ k ∧ i = .int .i64 j) (fun i => k - (intOf i).toNat)
        case atStart => exact ⟨0, Nat.zero_le _, rfl⟩
        case round =>
          obtain ⟨j, hj, rfl⟩ := hrel
          by_cases hjlt : j < k
          · obtain ⟨z, HE⟩ : ∃ z, Hid (z = zs.getD j 0) := ⟨_, rfl⟩
            have hcx : wo.cell? ⟨b0, off0 + j, none⟩ = some (.int .u64 z) := by rw [hbr.cell (p := ⟨b0, off0 + j, none⟩) hb0, HE.out]; exact HC.out j (by omega)
            have hz : isW z := by rw [HE.out]; exact HW.out j (by omega)
            have ht : take8 (putAll l zs k) (n1 + 8 * j) 8 = z := by
              rw [HE.out]
              have h := putAll_take (l := l) (zs := zs) (n := k) hjlt (by have := HZ.out; omega) (by rw [← HE.out]; exact hz)
              rw [HH.out.1] at h
              exact h
            have HT := Lib.hid ht
            clear ht
            go_wp2_with (go_at_call 14; refine (take_at g' 0 (n1 + 8 * k) cap' _ (n1 + 8 * j) (by omega) (putAll l zs k) _ HG.out.1 (HCG.out (by omega)) HPB.out (by omega) (by unfold maxLen; omega)).mono ?_; rintro e w' ⟨rfl, rfl⟩; rw [HT.out])
            go_round
            case rel => exact ⟨j + 1, by omega, by go_num⟩
            case measure => simp [intOf]; omega
          · obtain rfl : j = k := by omega
            go_wp2_with (go_at_call 14; refine (take_out _ _ _ _ _ (by unfold maxLen; omega) (by omega)).mono ?_; rintro e w' ⟨rfl, rfl⟩)
            go_ret
            exact ⟨rfl, hbr⟩
  · go_enter Try.func9, Try.ntmps9
    go_wp2_with (first
      | (go_at_call 10; refine (first_any _).mono ?_; rintro e w1 ⟨rfl, hb⟩)
      | (at_builtin; refine wpList_append_fresh (w0 := w) rfl _ _ rfl rfl ao1 n1 c1 l rfl hc1 (HH.out.below hb) hr1 hb ?_; intro g cap w2 hold hbel))
    go_loopw [6, 27] (fun v i wr => ∃ k : Nat, k ≤ 60 ∧ i = .int .i64 k ∧ ∃ g' cap', v = .slice (some ⟨g', 0, none⟩) (n1 + 8 * k) cap' ∧ Hid (Holds .u8 wr (some ⟨g', 0, none⟩) (n1 + 8 * k) (putAll l zs k)) ∧ Below w.heap.size w wr) (fun _ i _ => 60 - (intOf i).toNat)
    case atStart => exact ⟨0, Nat.zero_le _, rfl, g, cap, rfl, by rw [putAll_zero]; exact hold, hbel⟩
    case round =>
      obtain ⟨k, hk, rfl, g', cap', rfl, HG, hbr⟩ := hrel
      by_cases hlt : k < 60
      · obtain ⟨z, HE⟩ : ∃ z, Hid (z = zs.getD k 0) := ⟨_, rfl⟩
        have hcx : wr.cell? ⟨b0, off0 + k, none⟩ = some (.int .u64 z) := by rw [hbr.cell (p := ⟨b0, off0 + k, none⟩) hb0, HE.out]; exact HC.out k (by omega)
        have hz : isW z := by rw [HE.out]; exact HW.out k (by omega)
        go_wp2_with (go_at_call 13; refine (put_any _ (n1 + 8 * k) cap' (putAll l zs k) z _ HG.out (by omega) hz).mono ?_; rintro e w3 ⟨g3, rfl, hg3, hblk, hb3⟩)
        go_roundw
        case rel => exact ⟨k + 1, by omega, by go_num, g3, _, by rw [Nat.mul_add, ← Nat.add_assoc], by have h := holds_put HG.out.1 hblk; rw [HE.out, putAll_step _ _ _ (by have := HZ.out; omega)] at h; rw [Nat.mul_add, ← Nat.add_assoc]; exact h, hbr.trans (hb3.mono hbr.size)⟩
        case measure => simp [intOf]; omega
      · obtain rfl : k = 60 := by omega
        rw [show ((60 : Nat) : Int) = 60 from rfl, show n1 + 8 * 60 = n1 + 480 from rfl]
        rw [show n1 + 8 * 60 = n1 + 480 from rfl] at HG
        go_wp2
        have hcg : 0 < n1 + 480 → ∀ j, j < n1 + 480 → wr.cell? ⟨g', 0 + j, none⟩ = some (.int .u8 ((putAll l zs 60).getD j 0)) := by
          intro h0
          obtain ⟨b, off, e, _, hcc⟩ := HG.out.2 h0
          simp only [Option.some.injEq, Addr.mk.injEq, and_true] at e
          obtain ⟨rfl, rfl⟩ := e
          exact hcc
        have HCG := Lib.hid hcg
        have hpb := areBytes_of (putAll_bytes (l := l) (zs := zs) (k := 60) hlb)
        have HPB := Lib.hid hpb
        clear hcg hpb hlb
        obtain ⟨wo, rfl⟩ : ∃ wo : World, wo = wr := ⟨_, rfl⟩
        go_loop [37] (fun i => ∃ j : Nat, j ≤ 60 ∧ i = .int .i64 j) (fun i => 60 - (intOf i).toNat)
        case atStart => exact ⟨0, Nat.zero_le _, rfl⟩
        case round =>
          obtain ⟨j, hj, rfl⟩ := hrel
          by_cases hjlt : j < 60
          · obtain ⟨z, HE⟩ : ∃ z, Hid (z = zs.getD j 0) := ⟨_, rfl⟩
            have hcx : wo.cell? ⟨b0, off0 + j, none⟩ = some (.int .u64 z) := by rw [hbr.cell (p := ⟨b0, off0 + j, none⟩) hb0, HE.out]; exact HC.out j (by omega)
            have hz : isW z := by rw [HE.out]; exact HW.out j (by omega)
            have ht : take8 (putAll l zs 60) (n1 + 8 * j) 8 = z := by
              rw [HE.out]
              have h := putAll_take (l := l) (zs := zs) (n := 60) hjlt (by have := HZ.out; omega) (by rw [← HE.out]; exact hz)
              rw [HH.out.1] at h
              exact h
            have HT := Lib.hid ht
            clear ht
            go_wp2_with (go_at_call 14; refine (take_at g' 0 (n1 + 480) cap' _ (n1 + 8 * j) (by omega) (putAll l zs 60) _ HG.out.1 (HCG.out (by omega)) HPB.out (by omega) (by unfold maxLen; omega)).mono ?_; rintro e w' ⟨rfl, rfl⟩; rw [HT.out])
            go_round
            case rel => exact ⟨j + 1, by omega, by go_num⟩
            case measure => simp [intOf]; omega
          · obtain rfl : j = 60 := by omega
            go_wp2_with (go_at_call 14; refine (take_out _ _ _ _ _ (by unfold maxLen; omega) (by omega)).mono ?_; rintro e w' ⟨rfl, rfl⟩)
            go_ret
            exact ⟨rfl, hbr⟩

set_option maxHeartbeats 800000 in
theorem takes_empty (ao0 : Option Addr) (c0 : Nat) (ao1 : Option Addr) (n1 c1 : Nat) (l : List Int) (w : World) (hc0 : ao0 = none → c0 = 0) (hc0m : c0 ≤ 9223372036854775807)
    (hc1 : ao1 = none → c1 = 0) (hh : Holds .u8 w ao1 n1 l) (hr1 : n1 ≤ 140737488351232) :
    Calls Try.prog 9 #[.slice ao0 0 c0, .slice ao1 n1 c1] w fun e w' => e = .returned (.bool true) ∧ Below w.heap.size w w' := by
  have HH := Lib.hid hh
  clear hh
  cases ao0 with
  | none =>
    obtain rfl : c0 = 0 := hc0 rfl
    clear hc0
    go_enter Try.func9, Try.ntmps9
    go_wp2_with (first
      | (go_at_call 10; refine (first_any _).mono ?_; rintro e w1 ⟨rfl, hb⟩)
      | (at_builtin; refine wpList_append_fresh (w0 := w) rfl _ _ rfl rfl ao1 n1 c1 l rfl hc1 (HH.out.below hb) hr1 hb ?_; intro g cap w2 hold hbel))
    refine wp_loop_rounds 1 ?_
    rw [rounds_succ]
    go_wp2
    refine wp_loop_rounds 1 ?_
    rw [rounds_succ]
    go_wp2_with (go_at_call 14; refine (take_out _ _ _ _ _ (by unfold maxLen; omega) (by omega)).mono ?_; rintro e w' ⟨rfl, rfl⟩)
    go_ret
    exact ⟨rfl, hbel⟩
  | some ad =>
    clear hc0
    go_enter Try.func9, Try.ntmps9
    go_wp2_with (first
      | (go_at_call 10; refine (first_any _).mono ?_; rintro e w1 ⟨rfl, hb⟩)
      | (at_builtin; refine wpList_append_fresh (w0 := w) rfl _ _ rfl rfl ao1 n1 c1 l rfl hc1 (HH.out.below hb) hr1 hb ?_; intro g cap w2 hold hbel))
    refine wp_loop_rounds 1 ?_
    rw [rounds_succ]
    go_wp2
    refine wp_loop_rounds 1 ?_
    rw [rounds_succ]
    go_wp2_with (go_at_call 14; refine (take_out _ _ _ _ _ (by unfold maxLen; omega) (by omega)).mono ?_; rintro e w' ⟨rfl, rfl⟩)
    go_ret
    exact ⟨rfl, hbel⟩

theorem IsRow.holds {k : IntKind} {w : World} {a : Option Addr} {len cap : Nat} {zs : List Int} (h : IsRow k w a len cap zs) : Holds k w a len (zs.take len) := by
  rcases h with ⟨rfl, rfl, rfl, rfl⟩ | ⟨x, rfl, hl, _, hz, hc, _⟩
  · exact ⟨rfl, fun h => absurd h (by omega)⟩
  · refine ⟨by rw [List.length_take]; omega, fun h => ?_⟩
    obtain ⟨b, off, spot⟩ := x
    have h0 := hc 0 (by omega)
    have hspot : spot = none := by simpa [Addr.add] using World.cell?_spot h0
    subst hspot
    refine ⟨b, off, rfl, ?_, fun j hj => ?_⟩
    · have hb := hc 0 (by omega)
      simp [Addr.add] at hb
      rcases Nat.lt_or_ge b w.heap.size with hlt | hge
      · exact hlt
      · simp [World.cell?, Array.getElem?_eq_none hge] at hb
    · have hj2 := hc j (by omega)
      have ea : (⟨b, off, none⟩ : Addr).add j = ⟨b, off + j, none⟩ := by simp [Addr.add]
      rw [ea] at hj2
      rw [hj2]
      congr 2
      simp [List.getD, hj]
theorem IsRow.nil {k : IntKind} {w : World} {a : Option Addr} {len cap : Nat} {zs : List Int} (h : IsRow k w a len cap zs) : a = none → cap = 0 := by
  rcases h with ⟨rfl, rfl, rfl, rfl⟩ | ⟨x, rfl, _⟩
  · exact fun _ => rfl
  · intro h; cases h
theorem IsRow.le {k : IntKind} {w : World} {a : Option Addr} {len cap : Nat} {zs : List Int} (h : IsRow k w a len cap zs) : len ≤ cap ∧ cap ≤ 9223372036854775807 := by
  rcases h with ⟨rfl, rfl, rfl, rfl⟩ | ⟨x, rfl, hl, hm, _⟩
  · omega
  · unfold maxLen at hm; omega
theorem IsRow.wf {k : IntKind} {w : World} {a : Option Addr} {len cap : Nat} {zs : List Int} (h : IsRow k w a len cap zs) : ∀ n ∈ zs, (Lit.int k n).wf = true := by
  rcases h with ⟨rfl, rfl, rfl, rfl⟩ | ⟨x, rfl, _, _, _, _, h⟩
  · intro n hn; cases hn
  · exact h
theorem IsRow.bytes {w : World} {a : Option Addr} {len cap : Nat} {zs : List Int} (h : IsRow .u8 w a len cap zs) : ∀ x ∈ zs.take len, 0 ≤ x ∧ x ≤ 255 := by
  intro x hx
  have := h.wf x (List.mem_of_mem_take hx)
  simp [Lit.wf, IntKind.min, IntKind.max, IntKind.signed, IntKind.bits] at this
  omega

theorem takes_all (a0 : Option Addr) (len0 cap0 : Nat) (z0 : List Int) (a1 : Option Addr) (len1 cap1 : Nat) (z1 : List Int) (w : World) (w0 : IsRow .u64 w a0 len0 cap0 z0) (w1 : IsRow .u8 w a1 len1 cap1 z1) (_s0 : cap0 * 8 ≤ 140737488351232) (s1 : cap1 * 1 ≤ 140737488351232) :
    Calls Try.prog 9 #[.slice a0 len0 cap0, .slice a1 len1 cap1] w fun e w' => e = .returned (.bool true) ∧ Below w.heap.size w w' := by
  have l1 := w1.le
  rcases Nat.eq_zero_or_pos len0 with h | h
  · subst h
    exact takes_empty a0 cap0 a1 len1 cap1 _ w w0.nil w0.le.2 w1.nil w1.holds (by omega)
  · obtain ⟨b, off, rfl, hb, hc⟩ := w0.holds.2 h
    exact takes_walk b off len0 cap0 (z0.take len0) a1 len1 cap1 _ w hb hc w0.le.1 w0.le.2 w0.holds.1 (fun j hj => by
      have hj' : j < (z0.take len0).length := by rw [w0.holds.1]; exact hj
      have hm := w0.wf ((z0.take len0)[j]) (List.mem_of_mem_take (List.getElem_mem hj'))
      have e : (z0.take len0).getD j 0 = (z0.take len0)[j] := by simp [List.getD, List.getElem?_eq_getElem hj']
      rw [e]
      exact isW_of hm) w1.nil w1.holds w1.bytes (by omega)
end Go.Proofs.Ytnjdlcdadaeomaa
