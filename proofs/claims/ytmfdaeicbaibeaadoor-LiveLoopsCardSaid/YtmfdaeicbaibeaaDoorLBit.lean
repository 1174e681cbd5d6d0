/-
  Package bits, any set: Add, Len, List.
-/
import Derived.Test.YtmfdaeicbaibeaaDoorLMem
import Derived.Test.YtmfdaeicbaibeaaDoorNew
import Derived.Laws.BitsAllLaws
import Derived.StillTailTactics
import Derived.Deep.CutBlock
namespace Go.Proofs.YtmfdaeicbaibeaaDoor
set_option linter.unusedVariables false
set_option linter.unusedSimpArgs false
open Go.ChangeShapes Go.WideShapes Go.ChangeAt Go.RowKit

theorem getD_lt {ws : List Nat} (h : ∀ x ∈ ws, x < 18446744073709551616) (k : Nat) : ws.getD k 0 < 18446744073709551616 := by
  rw [List.getD_eq_getElem?_getD]
  rcases e : ws[k]? with _ | y
  · simp
  · simpa using h y (List.mem_of_getElem? e)
theorem and_bit (v c : Nat) (hv : v < 18446744073709551616) (hc : c < 64) : (bits BinOp.and IntKind.u64 (v : Int) ((2 ^ c : Nat) : Int) != 0) = v.testBit c := by
  rw [u64_and_nat v _ hv (pow_lt64 hc)]
  have e : v &&& 2 ^ c = if v.testBit c = true then 2 ^ c else 0 := by
    apply Nat.eq_of_testBit_eq
    intro i
    rw [Nat.testBit_and, Nat.testBit_two_pow]
    by_cases h : c = i
    · subst h
      rcases h2 : v.testBit c with _ | _ <;> simp [Nat.testBit_two_pow]
    · rcases h2 : v.testBit c with _ | _ <;> simp [h, Nat.testBit_two_pow]
  rw [e]
  have hp : 0 < 2 ^ c := Nat.pow_pos (by decide)
  rcases h2 : v.testBit c with _ | _
  · simp
  · have h3 : ((2 ^ c : Nat) : Int) ≠ 0 := by omega
    rw [if_pos rfl]
    exact bne_iff_ne.2 h3
/-- a number that was there -/
theorem ladd_there (p b m q j : Nat) (ws : List Nat) (w : World) (hp : Blk w p 117 #[.int .i64 m, .slice (some ⟨b, 0, none⟩) q q]) (hw : Blk w b 40 (u64n ws).toArray) (hl : ws.length = q) (hlt : ∀ x ∈ ws, x < 18446744073709551616)
    (hm : m ≤ 5000) (hj : j < m) (hq : m ≤ 64 * q) (hr : hasW ws j = true) :
    Calls Tryd.prog 62 #[.pointer (some ⟨p, 0, none⟩), .int .i64 j] w fun e w' => e = .returned (.bool false) ∧ ∃ nq, w' = w.drewN nq := by
  have h0 : w.cell? ⟨p, 0, none⟩ = some (.int .i64 m) := hp.cell 0
  have h1 : w.cell? ⟨p, 1, none⟩ = some (.slice (some ⟨b, 0, none⟩) q q) := hp.cell 1
  have h2 : w.cell? ⟨b, j / 64, none⟩ = some (.int .u64 ((ws.getD (j / 64) 0 : Nat) : Int)) := by
    rw [hw.cell, List.getElem?_toArray]
    exact u64n_at (by omega)
  have HT := Lib.hid (takes_yes p j m w h0 (Int.natCast_nonneg _) (by omega))
  have HH := Lib.hid (has_at p b m q j (j % 64) (j / 64) _ true w h0 h1 h2 hm hj rfl rfl (by omega) (by rw [and_bit _ _ (getD_lt hlt _) (Nat.mod_lt _ (by decide))]; exact hr))
  clear h0 h1 h2 hm hj hp hw hl hlt hr hq
  go_enter Tryd.func62, Tryd.ntmps62
  go_wp2_with (first
    | (go_at_call 72; refine HT.out.mono ?_; rintro e w1 ⟨rfl, rfl⟩)
    | (go_at_call 73; refine HH.out.mono ?_; rintro e w1 ⟨rfl, nq, rfl⟩))
  go_ret
  exact ⟨rfl, nq, rfl⟩
/-- a new number -/
theorem ladd_new (p b m q j : Nat) (ws : List Nat) (w : World) (hp : Blk w p 117 #[.int .i64 m, .slice (some ⟨b, 0, none⟩) q q]) (hw : Blk w b 40 (u64n ws).toArray) (hl : ws.length = q) (hlt : ∀ x ∈ ws, x < 18446744073709551616)
    (hm : m ≤ 5000) (hj : j < m) (hq : m ≤ 64 * q) (hr : hasW ws j = false) :
    Calls Tryd.prog 62 #[.pointer (some ⟨p, 0, none⟩), .int .i64 j] w fun e w' => e = .returned (.bool true) ∧ ∃ nq, w' = (w.setCell ⟨b, j / 64, none⟩ (.int .u64 (((addW ws j).getD (j / 64) 0 : Nat) : Int))).drewN nq := by
  have hkq : j / 64 < q := by omega
  have h0 : w.cell? ⟨p, 0, none⟩ = some (.int .i64 m) := hp.cell 0
  have h1 : w.cell? ⟨p, 1, none⟩ = some (.slice (some ⟨b, 0, none⟩) q q) := hp.cell 1
  have h2 : w.cell? ⟨b, j / 64, none⟩ = some (.int .u64 ((ws.getD (j / 64) 0 : Nat) : Int)) := by
    rw [hw.cell, List.getElem?_toArray]
    exact u64n_at (by omega)
  have f2 : w.frozen? ⟨b, j / 64, none⟩ = false := hw.frozen _
  have hlt2 : (2 : Nat) ^ (j % 64) < 18446744073709551616 := pow_lt64 (Nat.mod_lt _ (by decide))
  have HT := Lib.hid (takes_yes p j m w h0 (Int.natCast_nonneg _) (by omega))
  have HH := Lib.hid (has_at p b m q j (j % 64) (j / 64) _ false w h0 h1 h2 hm hj rfl rfl hkq (by rw [and_bit _ _ (getD_lt hlt _) (Nat.mod_lt _ (by decide))]; exact hr))
  have hb := Lib.hid (show ((j : Int).tmod 64 = ((j % 64 : Nat) : Int)) by rw [Int.tmod_eq_emod_of_nonneg (by omega)]; omega)
  have HBIT := Lib.hid (fun W => bit_any j (j % 64) hb.out (Nat.mod_lt _ (by decide)) W)
  have hor : bits BinOp.or IntKind.u64 ((ws.getD (j / 64) 0 : Nat) : Int) ((2 ^ (j % 64) : Nat) : Int) = (((addW ws j).getD (j / 64) 0 : Nat) : Int) := by
    rw [u64_or_nat _ _ (getD_lt hlt _) hlt2]
    congr 1
    unfold addW
    rw [List.getD_eq_getElem?_getD (l := List.set _ _ _), List.getElem?_set, if_pos rfl, if_pos (by omega), Option.getD_some]
  obtain ⟨k, hk⟩ : ∃ k : Nat, k = j / 64 := ⟨_, rfl⟩
  have gk : (j : Int) / 64 = (k : Int) := by omega
  have gw : IntKind.i64.wrap (k : Int) = (k : Int) := i64_wrap_small (by omega)
  obtain ⟨B, hB⟩ : ∃ B : Int, B = ((2 ^ (j % 64) : Nat) : Int) := ⟨_, rfl⟩
  obtain ⟨V, hV⟩ : ∃ V : Int, V = ((ws.getD (j / 64) 0 : Nat) : Int) := ⟨_, rfl⟩
  obtain ⟨V2, hV2⟩ : ∃ V2 : Int, V2 = (((addW ws j).getD (j / 64) 0 : Nat) : Int) := ⟨_, rfl⟩
  rw [← hB] at HBIT hor
  rw [← hV] at hor h2
  rw [← hV2] at hor ⊢
  rw [← hk] at h2 f2 hkq ⊢
  clear hk hj hB hp hw hlt hm hlt2 hr hl hV hV2 hq
  go_enter Tryd.func62, Tryd.ntmps62
  go_wp2_with (first
    | (go_at_call 72; refine HT.out.mono ?_; rintro e w1 ⟨rfl, rfl⟩)
    | (go_at_call 73; refine HH.out.mono ?_; rintro e w1 ⟨rfl, nq, rfl⟩))
  go_region_law (go_simp; go_at_call 74; refine (HBIT.out _).mono ?_; rintro e w1 ⟨rfl, rfl⟩)
  all_goals
    go_wp2
    go_ret
    exact ⟨rfl, nq + 1, rfl⟩
theorem lall_some (p : Nat) (A : Option Addr) (q c : Nat) (w : World) (h1 : w.cell? ⟨p, 1, none⟩ = some (.slice A q c)) : Calls Tryd.prog 58 #[.pointer (some ⟨p, 0, none⟩)] w fun e w' => e = .returned (.slice A q c) ∧ w' = w := by
  go_enter Tryd.func58, Tryd.ntmps58
  go_wp2
  go_ret
  exact ⟨rfl, rfl⟩
theorem and_127 (y : Int) : ∃ r : Nat, r ≤ 127 ∧ bits BinOp.and IntKind.i64 y 127 = (r : Int) := by
  refine ⟨(BitVec.ofInt 64 y &&& BitVec.ofInt 64 127).toNat, ?_, ?_⟩
  · rw [BitVec.toNat_and]
    exact Nat.and_le_right
  · have h : (BitVec.ofInt 64 y &&& BitVec.ofInt 64 127).toNat ≤ 127 := by
      rw [BitVec.toNat_and]
      exact Nat.and_le_right
    show IntKind.i64.wrap ((BitVec.ofInt 64 y &&& BitVec.ofInt 64 127).toNat : Int) = _
    rw [IntKind.wrap_i64]
    omega
set_option maxRecDepth 100000 in
theorem ones_le (x : Int) (w : World) : Calls Tryd.prog 71 #[.int .u64 x] w fun e w' => ∃ r : Nat, r ≤ 127 ∧ e = .returned (.int .i64 r) ∧ w' = w := by
  go_enter Tryd.func71, Tryd.ntmps71
  go_wp2
  go_ret
  obtain ⟨r, h1, h2⟩ := and_127 _
  exact ⟨r, h1, congrArg Ending.returned (congrArg (Value.int IntKind.i64) h2), rfl⟩
theorem llen_any (p b q : Nat) (ws : List Nat) (w : World) (h1 : w.cell? ⟨p, 1, none⟩ = some (.slice (some ⟨b, 0, none⟩) q q)) (hw : Blk w b 40 (u64n ws).toArray) (hl : ws.length = q) (hq : q ≤ 16) : Calls Tryd.prog 57 #[.pointer (some ⟨p, 0, none⟩)] w fun e w' => ∃ r : Nat, r ≤ 2032 ∧ e = .returned (.int .i64 r) ∧ w' = w := by
  have HA := Lib.hid (lall_some p _ _ _ w h1)
  have HW := Lib.hid hw
  have HL := Lib.hid hl
  clear h1 hw hl
  go_enter Tryd.func57, Tryd.ntmps57
  go_wp2_with (go_at_call 58; refine HA.out.mono ?_; rintro e w1 ⟨rfl, hw1⟩; rw [hw1]; clear hw1)
  go_loopw [3, 9] (fun v i wr => ∃ k r : Nat, k ≤ q ∧ r ≤ 127 * k ∧ v = .int .i64 r ∧ i = .int .i64 k ∧ wr = w) (fun _ i _ => q - (intOf i).toNat)
  case atStart => exact ⟨0, 0, by omega, by omega, rfl, rfl, rfl⟩
  case round =>
    obtain ⟨k, r, hk, hr, rfl, rfl, hwr⟩ := hrel
    rw [hwr]
    clear hwr
    by_cases hlt : k < q
    · have hx : w.cell? ⟨b, k, none⟩ = some (.int .u64 ((ws.getD k 0 : Nat) : Int)) := by
        rw [HW.out.cell, List.getElem?_toArray]
        exact u64n_at (by rw [HL.out]; exact hlt)
      obtain ⟨V, hV⟩ : ∃ V : Int, V = ((ws.getD k 0 : Nat) : Int) := ⟨_, rfl⟩
      rw [← hV] at hx
      clear hV
      go_wp2_with (go_at_call 71; refine (ones_le _ _).mono ?_; rintro e w2 ⟨r2, hr2, rfl, rfl⟩)
      go_roundw
      case rel => exact ⟨k + 1, r + r2, by omega, by omega, by go_num, by go_num, by first | rfl | trivial⟩
      case measure => simp [intOf]; omega
    · go_wp2
      go_ret
      exact ⟨r, by omega, rfl, rfl⟩
/-- the library's table -/
def TzTab (w : World) : Prop := ∀ j, j < 64 → w.cell? ⟨0, j, none⟩ = some (.int .u8 ((Lib.deBruijn64tab.getD j 0 : Nat) : Int))
theorem cell_lt {w : World} {g j : Nat} {v : Value} (h : w.cell? ⟨g, j, none⟩ = some v) : g < w.heap.size := by
  rcases Nat.lt_or_ge g w.heap.size with h1 | h1
  · exact h1
  · have : w.heap[g]? = none := Array.getElem?_eq_none h1
    simp [World.cell?, this] at h
theorem TzTab.below {w w' : World} (h : TzTab w) (hb : Below w.heap.size w w') : TzTab w' := fun j hj => (hb.cell (p := ⟨_, j, none⟩) (cell_lt (h j hj))).trans (h j hj)
theorem ltz_key (x a : Nat) (hx : x < 18446744073709551616) (hx0 : x ≠ 0) (hlow : x &&& (18446744073709551616 - x) = a) :
    IntKind.u64.wrap (bits BinOp.and IntKind.u64 (x : Int) (IntKind.u64.wrap (-(x : Int))) * 285870213051353865) / 288230376151711744 = ((a * 285870213051353865 % 18446744073709551616 / 288230376151711744 : Nat) : Int) := by
  have e1 : IntKind.u64.wrap (-(x : Int)) = ((18446744073709551616 - x : Nat) : Int) := by rw [IntKind.wrap_u64]; omega
  rw [e1, u64_and_nat x _ hx (by omega), hlow, IntKind.wrap_u64]
  omega
theorem ltz_core (x k idx : Nat) (w : World) (hx0 : ((x : Int) == 0) = false)
    (key : IntKind.u64.wrap (bits BinOp.and IntKind.u64 (x : Int) (IntKind.u64.wrap (-(x : Int))) * 285870213051353865) / 288230376151711744 = (idx : Int))
    (hi : idx < 64) (hk : k < 64) (hcell : w.cell? ⟨0, idx, none⟩ = some (.int .u8 k)) :
    Calls Tryd.prog 59 #[.int .u64 x] w fun e w' => e = .returned (.int .i64 k) ∧ w' = w := by
  go_enter Tryd.func59, Tryd.ntmps59
  go_wp2_with (simp only [key])
  go_ret
  exact ⟨rfl, rfl⟩
theorem ltz_any (x : Nat) (w : World) (hx0 : x ≠ 0) (hx : x < 18446744073709551616) (hT : TzTab w) : Calls Tryd.prog 59 #[.int .u64 x] w fun e w' => e = .returned (.int .i64 (Lib.ctz 64 x)) ∧ w' = w := by
  obtain ⟨hlow, hk⟩ := Lib.lowest_bit 64 x hx0 hx
  obtain ⟨hi, htab⟩ := Lib.deBruijn64_at _ hk
  have hcell := hT _ hi
  rw [htab] at hcell
  exact ltz_core x _ _ w (by simp; omega) (ltz_key x _ hx hx0 hlow) hi hk hcell
end Go.Proofs.YtmfdaeicbaibeaaDoor
