/-
  Package text: funcOf.
-/
import Derived.Test.YtbpobbadmbafaaaDoorTIns
namespace Go.Proofs.YtbpobbadmbafaaaDoor
set_option linter.unusedVariables false
open Go.ChangeShapes Go.WideShapes Go.ChangeAt Go.RowKit

def FnCase (ws : List (List UInt8)) (base : Nat) (p : Int) (lo : Option Addr) (nl lc : Nat) (rs : Bool) (kp : Int) (W : World) (ok : Bool) : Prop :=
  (ok = false ∧ fnL ws = none) ∨ (ok = true ∧ ∃ l, fnL ws = some ⟨p, l, rs, kp, []⟩ ∧ l.length = nl ∧ W.ownsRow base 53 1 (.slice lo nl lc) nl (u8c l))
def FnPost (ws : List (List UInt8)) (w : World) (e : Ending) (w' : World) : Prop :=
  ∃ (p : Int) (lo : Option Addr) (nl lc : Nat) (rs : Bool) (kp : Int) (ok : Bool), e = .returned (.tuple #[.agg #[.int .i64 p, .slice lo nl lc, .bool rs, .int .i64 kp, .slice none 0 0], .bool ok]) ∧ Below w.heap.size w w' ∧ FnCase ws w.heap.size p lo nl lc rs kp w' ok
theorem fnL_len {ws : List (List UInt8)} (h : ws.length ≠ 4) : fnL ws = none := by
  match ws, h with
  | [], _ => rfl
  | [_], _ => rfl
  | [_, _], _ => rfl
  | [_, _, _], _ => rfl
  | [_, _, _, _], h => exact absurd rfl h
  | _ :: _ :: _ :: _ :: _ :: _, _ => rfl
theorem fnL4 (a b c d : List UInt8) : fnL [a, b, c, d] = (numLe 255 a).bind fun p : Nat => (localsL b).bind fun l => (numLe 1 c).bind fun r : Nat => (keepL d).map fun k => (⟨(p : Int), l, decide (r = 1), k, []⟩ : Fn) := by
  rw [fnL]
  cases numLe 255 a <;> cases localsL b <;> cases numLe 1 c <;> cases keepL d <;> rfl
/-- a function's line, place by place -/
theorem fnL_case {a b c d : List UInt8} {base nl lc : Nat} {lo : Option Addr} {ok1 ok2 ok3 ok4 : Bool} {v1 v3 : Nat} {kp : Int} {W : World}
    (e1 : (numLe 255 a).getD 0 = v1) (f1 : (numLe 255 a).isSome = ok1) (e2 : (ok2 = false ∧ localsL b = none) ∨ (ok2 = true ∧ ∃ l, localsL b = some l ∧ l.length = nl ∧ W.ownsRow base 53 1 (.slice lo nl lc) nl (u8c l)))
    (e3 : (numLe 1 c).getD 0 = v3) (f3 : (numLe 1 c).isSome = ok3) (e4 : (keepL d).getD 0 = kp) (f4 : (keepL d).isSome = ok4) : FnCase [a, b, c, d] base v1 lo nl lc (decide (v3 = 1)) kp W (ok1 && ok2 && ok3 && ok4) := by
  unfold FnCase
  rw [fnL4]
  cases h1 : numLe 255 a with
  | none => rw [h1] at f1; subst f1; exact .inl ⟨rfl, rfl⟩
  | some p =>
    rw [h1] at e1 f1
    simp only [Option.getD_some, Option.isSome_some] at e1 f1
    subst e1 f1
    rcases e2 with ⟨rfl, h2⟩ | ⟨rfl, l, h2, h5, h6⟩
    · rw [h2]; exact .inl ⟨by simp, rfl⟩
    · rw [h2]
      cases h3 : numLe 1 c with
      | none => rw [h3] at f3; subst f3; exact .inl ⟨by simp, rfl⟩
      | some r =>
        rw [h3] at e3 f3
        simp only [Option.getD_some, Option.isSome_some] at e3 f3
        subst e3 f3
        cases h4 : keepL d with
        | none => rw [h4] at f4; subst f4; exact .inl ⟨by simp, rfl⟩
        | some k =>
          rw [h4] at e4 f4
          simp only [Option.getD_some, Option.isSome_some] at e4 f4
          subst e4 f4
          exact .inr ⟨rfl, l, rfl, h5, h6⟩

set_option maxRecDepth 100000 in
set_option maxHeartbeats 8000000 in
theorem funcOf_any (ws : List (List UInt8)) (B : Nat) (A : Option Addr) (n c : Nat) (w : World) (hR : Reads w B 1 A n (strs ws)) (hB : B ≤ w.heap.size) (hn : ws.length = n) (hlen : ∀ x ∈ ws, x.length ≤ 4294967296) (hE : Env w.heap.size w) :
    Calls Tryd.prog 17 #[.slice A n c] w (FnPost ws w) := by
  have HE : Hid (Env (w.heap.size + 1) (w.alloc (.cells #[.int .i64 0, .slice none 0 0, .bool false, .int .i64 0, .slice none 0 0] 36))) := Lib.hid (hE.at_ ((Below.refl _ _).alloc (Nat.le_refl _) _) (by omega))
  have hz0 : (w.alloc (.cells #[.int .i64 0, .slice none 0 0, .bool false, .int .i64 0, .slice none 0 0] 36)).heap.size = w.heap.size + 1 := by simp
  by_cases h4 : n = 4
  · subst h4
    match ws, hn with
    | [x0, x1, x2, x3], _ =>
      obtain ⟨b, off, rfl, hb, hc⟩ := words_at hR (by omega)
      have l0 := hlen x0 (by simp)
      have l1 := hlen x1 (by simp)
      have l2 := hlen x2 (by simp)
      have l3 := hlen x3 (by simp)
      have k0 := hc 0 x0 rfl
      have k1 := hc 1 x1 rfl
      have k2 := hc 2 x2 rfl
      have k3 := hc 3 x3 rfl
      simp only [Nat.add_zero] at k0
      obtain ⟨Y0, HY0⟩ : ∃ Y, Hid (Y = str x0) := ⟨_, rfl⟩
      obtain ⟨Y1, HY1⟩ : ∃ Y, Hid (Y = str x1) := ⟨_, rfl⟩
      obtain ⟨Y2, HY2⟩ : ∃ Y, Hid (Y = str x2) := ⟨_, rfl⟩
      obtain ⟨Y3, HY3⟩ : ∃ Y, Hid (Y = str x3) := ⟨_, rfl⟩
      rw [← HY0.out] at k0
      rw [← HY1.out] at k1
      rw [← HY2.out] at k2
      rw [← HY3.out] at k3
      obtain ⟨W0, hW0⟩ : ∃ W0, W0 = w.alloc (.cells #[.int .i64 0, .slice none 0 0, .bool false, .int .i64 0, .slice none 0 0] 36) := ⟨_, rfl⟩
      have hB0 : Below w.heap.size w W0 := by rw [hW0]; exact (Below.refl _ _).alloc (Nat.le_refl _) _
      have hX0 : Blk W0 w.heap.size 36 #[.int .i64 0, .slice none 0 0, .bool false, .int .i64 0, .slice none 0 0] := by rw [hW0]; exact Blk.new w _ _
      rw [← hW0] at HE hz0
      have HN1 := Lib.hid (number_any 255 x0 (by omega) l0 W0 (by rw [hz0]; exact HE.out))
      obtain ⟨v1, e1⟩ : ∃ v, (numLe 255 x0).getD 0 = v := ⟨_, rfl⟩
      obtain ⟨ok1, f1⟩ : ∃ v, (numLe 255 x0).isSome = v := ⟨_, rfl⟩
      obtain ⟨v3, e3⟩ : ∃ v, (numLe 1 x2).getD 0 = v := ⟨_, rfl⟩
      obtain ⟨ok3, f3⟩ : ∃ v, (numLe 1 x2).isSome = v := ⟨_, rfl⟩
      obtain ⟨kp, e4⟩ : ∃ v, (keepL x3).getD 0 = v := ⟨_, rfl⟩
      obtain ⟨ok4, f4⟩ : ∃ v, (keepL x3).isSome = v := ⟨_, rfl⟩
      rw [← HY0.out, e1, f1] at HN1
      have hv1 : v1 ≤ 255 := by
        rw [← e1]
        cases hh : numLe 255 x0 with
        | none => simp
        | some u => simp; exact (numLe_some hh).2.1
      have HX0 := Lib.hid hX0
      have HB0 := Lib.hid hB0
      have j0 : W0.cell? ⟨b, off, none⟩ = some (.string Y0) := by rw [hB0.cell (p := ⟨b, off, none⟩) (by show b < _; omega)]; exact k0
      have J1 : Hid (∀ W, Below W0.heap.size W0 W → W.cell? ⟨b, off + 1, none⟩ = some (.string Y1) ∧ W.cell? ⟨b, off + 2, none⟩ = some (.string Y2) ∧ W.cell? ⟨b, off + 3, none⟩ = some (.string Y3)) := Lib.hid fun W hW => by
        have hh : Below w.heap.size w W := hB0.trans (hW.mono (by omega))
        exact ⟨by rw [hh.cell (p := ⟨b, off + 1, none⟩) (by show b < _; omega)]; exact k1, by rw [hh.cell (p := ⟨b, off + 2, none⟩) (by show b < _; omega)]; exact k2, by rw [hh.cell (p := ⟨b, off + 3, none⟩) (by show b < _; omega)]; exact k3⟩
      have HL1 := Lib.hid (localsOf_any x1 l1)
      have HN3 : Hid (∀ W, Env W.heap.size W → Calls Tryd.prog 30 #[.string Y2, .int .u64 1] W fun e w' => e = .returned (.tuple #[.int .u64 v3, .bool ok3]) ∧ Below W.heap.size W w') := Lib.hid fun W hW => by
        have := number_any 1 x2 (by omega) l2 W hW
        rw [e3, f3, ← HY2.out] at this
        exact this
      have HK4 : Hid (∀ W, Env W.heap.size W → Calls Tryd.prog 32 #[.string Y3] W fun e w' => e = .returned (.tuple #[.int .i64 kp, .bool ok4]) ∧ Below W.heap.size W w') := Lib.hid fun W hW => by
        have := keepOf_any x3 l3 W hW
        rw [e4, f4, ← HY3.out] at this
        exact this
      rw [← HY1.out] at HL1
      have E1 := Lib.hid e1
      have F1 := Lib.hid f1
      have E3 := Lib.hid e3
      have F3 := Lib.hid f3
      have E4 := Lib.hid e4
      have F4 := Lib.hid f4
      have hz0' := hz0
      clear hlen hE hR hc k0 k1 k2 k3 e1 f1 e3 f3 e4 f4 l0 l1 l2 l3 hB0 hX0 hz0
      subst hW0
      go_enter Tryd.func17, Tryd.ntmps17
      go_wp2_with (go_at_call 30; refine HN1.out.mono ?_; rintro e W1 ⟨rfl, hb1⟩; refine Hid.out ?_)
      have hz1 : w.heap.size + 1 ≤ W1.heap.size := by have := hb1.size; omega
      have HB1 := Lib.hid hb1
      have j1 := (J1.out W1 hb1).1
      clear hb1 j0
      refine Lib.hid ?_
      go_wp2_with (go_at_call 31; refine (HL1.out _).mono ?_; rintro e W2 ⟨lo, nl, lc, ok2, rfl, hb2, hl2⟩; refine Hid.out ?_)
      have hz2 : W1.heap.size ≤ W2.heap.size := hb2.size
      have HB2 := Lib.hid (HB1.out.trans (hb2.mono (by omega)))
      have HE2 : Hid (Env W2.heap.size W2) := Lib.hid (HE.out.at_ (HB2.out.mono (by omega)) (by omega))
      have HL2 := Lib.hid hl2
      have j2 := (J1.out W2 HB2.out).2.1
      clear hb2 hl2 j1
      refine Lib.hid ?_
      go_wp2_with (go_at_call 30; refine (HN3.out _ HE2.out).mono ?_; rintro e W3 ⟨rfl, hb3⟩; refine Hid.out ?_)
      have hz3 : W2.heap.size ≤ W3.heap.size := hb3.size
      have HB3 := Lib.hid (HB2.out.trans (hb3.mono (by omega)))
      have HC3 := Lib.hid hb3
      have HE3 : Hid (Env W3.heap.size W3) := Lib.hid (HE.out.at_ (HB3.out.mono (by omega)) (by omega))
      have j3 := (J1.out W3 HB3.out).2.2
      clear hb3 j2
      refine Lib.hid ?_
      go_wp2_with (go_at_call 32; refine (HK4.out _ HE3.out).mono ?_; rintro e W4 ⟨rfl, hb4⟩; refine Hid.out ?_)
      have hz4 : W3.heap.size ≤ W4.heap.size := hb4.size
      have HB4 := Lib.hid (HB3.out.trans (hb4.mono (by omega)))
      have HC4 := Lib.hid (HC3.out.trans (hb4.mono (by omega)))
      clear hb4 j3
      have HFin : Hid (∀ W', (∀ i, w.heap.size < i → i < W4.heap.size → W'.heap[i]? = W4.heap[i]?) → FnCase [x0, x1, x2, x3] w.heap.size v1 lo nl lc (decide (v3 = 1)) kp W' (ok1 && ok2 && ok3 && ok4)) := Lib.hid fun W' hk => by
        refine fnL_case E1.out F1.out ?_ E3.out F3.out E4.out F4.out
        rcases HL2.out with h | ⟨h, l, hl1, hl2, hl3⟩
        · exact .inl h
        · refine .inr ⟨h, l, hl1, hl2, own_base (own_kept hl3 fun i hi => ?_) (by omega)⟩
          have := own_lt hl3 hi
          exact (hk i (by omega) (by omega)).trans (HC4.out.block i this.2)
      have hx4 : Blk W4 w.heap.size 36 #[.int .i64 0, .slice none 0 0, .bool false, .int .i64 0, .slice none 0 0] := HX0.out.below HB4.out (by omega)
      have k0 : W4.cell? ⟨w.heap.size, 0, none⟩ = some (.int .i64 0) := hx4.cell 0
      have k1 : W4.cell? ⟨w.heap.size, 1, none⟩ = some (.slice none 0 0) := hx4.cell 1
      have k2 : W4.cell? ⟨w.heap.size, 2, none⟩ = some (.bool false) := hx4.cell 2
      have k3 : W4.cell? ⟨w.heap.size, 3, none⟩ = some (.int .i64 0) := hx4.cell 3
      have k4 : W4.cell? ⟨w.heap.size, 4, none⟩ = some (.slice none 0 0) := hx4.cell 4
      have f0 := hx4.frozen 0
      have f1 := hx4.frozen 1
      have f2 := hx4.frozen 2
      have f3 := hx4.frozen 3
      have f4 := hx4.frozen 4
      have hzz : w.heap.size < W4.heap.size := by omega
      have hrs : ((v3 : Int) == 1) = decide (v3 = 1) := by by_cases h : v3 = 1 <;> simp [h]; omega
      obtain ⟨rs, hrr⟩ : ∃ rs, decide (v3 = 1) = rs := ⟨_, rfl⟩
      rw [hrr] at HFin hrs
      have HBF : Hid (Below w.heap.size w W4) := Lib.hid (HB0.out.trans (HB4.out.mono (by omega)))
      have HKF : Hid (∀ o : Obj, ∀ a b c d e : Value, ∀ i, w.heap.size < i → i < W4.heap.size → ((((((W4.setCell ⟨w.heap.size, 0, none⟩ a).setCell ⟨w.heap.size, 1, none⟩ b).setCell ⟨w.heap.size, 2, none⟩ c).setCell ⟨w.heap.size, 3, none⟩ d).setCell ⟨w.heap.size, 4, none⟩ e).alloc o).heap[i]? = W4.heap[i]?) := Lib.hid fun o a b c d e i h1 h2 => by
        rw [Below.heap_alloc _ _ i (by simp; omega), Below.heap_setCell _ _ _ i (by simp; omega), Below.heap_setCell _ _ _ i (by simp; omega), Below.heap_setCell _ _ _ i (by simp; omega), Below.heap_setCell _ _ _ i (by simp; omega), Below.heap_setCell _ _ _ i (by simp; omega)]
      have HBB : Hid (∀ o : Obj, ∀ a b c d e : Value, Below w.heap.size w ((((((W4.setCell ⟨w.heap.size, 0, none⟩ a).setCell ⟨w.heap.size, 1, none⟩ b).setCell ⟨w.heap.size, 2, none⟩ c).setCell ⟨w.heap.size, 3, none⟩ d).setCell ⟨w.heap.size, 4, none⟩ e).alloc o)) := Lib.hid fun o a b c d e =>
        (((((HBF.out.setCell (p := ⟨w.heap.size, 0, none⟩) (Nat.le_refl _) a).setCell (p := ⟨w.heap.size, 1, none⟩) (Nat.le_refl _) b).setCell (p := ⟨w.heap.size, 2, none⟩) (Nat.le_refl _) c).setCell (p := ⟨w.heap.size, 3, none⟩) (Nat.le_refl _) d).setCell (p := ⟨w.heap.size, 4, none⟩) (Nat.le_refl _) e).alloc (by simp; omega) o
      have hx5 := ((((hx4.set_ 0 (.int .i64 v1)).set_ 1 (.slice lo nl lc)).set_ 2 (.bool rs)).set_ 3 (.int .i64 kp)).set_ 4 (.slice none 0 0)
      have HCC : Hid (∀ o : Obj, ((((((W4.setCell ⟨w.heap.size, 0, none⟩ (.int .i64 v1)).setCell ⟨w.heap.size, 1, none⟩ (.slice lo nl lc)).setCell ⟨w.heap.size, 2, none⟩ (.bool rs)).setCell ⟨w.heap.size, 3, none⟩ (.int .i64 kp)).setCell ⟨w.heap.size, 4, none⟩ (.slice none 0 0)).alloc o).cell? ⟨w.heap.size, 0, none⟩ = some (.int .i64 v1) ∧ ((((((W4.setCell ⟨w.heap.size, 0, none⟩ (.int .i64 v1)).setCell ⟨w.heap.size, 1, none⟩ (.slice lo nl lc)).setCell ⟨w.heap.size, 2, none⟩ (.bool rs)).setCell ⟨w.heap.size, 3, none⟩ (.int .i64 kp)).setCell ⟨w.heap.size, 4, none⟩ (.slice none 0 0)).alloc o).cell? ⟨w.heap.size, 1, none⟩ = some (.slice lo nl lc) ∧ ((((((W4.setCell ⟨w.heap.size, 0, none⟩ (.int .i64 v1)).setCell ⟨w.heap.size, 1, none⟩ (.slice lo nl lc)).setCell ⟨w.heap.size, 2, none⟩ (.bool rs)).setCell ⟨w.heap.size, 3, none⟩ (.int .i64 kp)).setCell ⟨w.heap.size, 4, none⟩ (.slice none 0 0)).alloc o).cell? ⟨w.heap.size, 2, none⟩ = some (.bool rs) ∧ ((((((W4.setCell ⟨w.heap.size, 0, none⟩ (.int .i64 v1)).setCell ⟨w.heap.size, 1, none⟩ (.slice lo nl lc)).setCell ⟨w.heap.size, 2, none⟩ (.bool rs)).setCell ⟨w.heap.size, 3, none⟩ (.int .i64 kp)).setCell ⟨w.heap.size, 4, none⟩ (.slice none 0 0)).alloc o).cell? ⟨w.heap.size, 3, none⟩ = some (.int .i64 kp) ∧ ((((((W4.setCell ⟨w.heap.size, 0, none⟩ (.int .i64 v1)).setCell ⟨w.heap.size, 1, none⟩ (.slice lo nl lc)).setCell ⟨w.heap.size, 2, none⟩ (.bool rs)).setCell ⟨w.heap.size, 3, none⟩ (.int .i64 kp)).setCell ⟨w.heap.size, 4, none⟩ (.slice none 0 0)).alloc o).cell? ⟨w.heap.size, 4, none⟩ = some (.slice none 0 0)) := Lib.hid fun o => ⟨((hx5.alloc o).cell 0).trans (by simp), ((hx5.alloc o).cell 1).trans (by simp), ((hx5.alloc o).cell 2).trans (by simp), ((hx5.alloc o).cell 3).trans (by simp), ((hx5.alloc o).cell 4).trans (by simp)⟩
      clear hx5
      clear hx4 hrr hz1 hz2 hz3 hz4 hz0'
      cases ok1 <;> cases ok2 <;> cases ok3 <;> cases ok4
      all_goals
        refine Lib.hid ?_
        go_wp2
        have HQ := HCC.out (.cells #[.int .i64 v1, .slice lo nl lc, .bool rs, .int .i64 kp, .slice none 0 0] 36)
        obtain ⟨c0, c1, c2, c3, c4⟩ := HQ
        first
          | exact bodyPost_ret (v := .tuple #[.agg #[.int .i64 v1, .slice lo nl lc, .bool rs, .int .i64 kp, .slice none 0 0], .bool false]) (by simp [results, Tryd.results17, go_sem, c0, c1, c2, c3, c4]) rfl ⟨v1, lo, nl, lc, rs, kp, false, rfl, HBB.out _ _ _ _ _ _, HFin.out _ (HKF.out _ _ _ _ _ _)⟩
          | exact bodyPost_ret (v := .tuple #[.agg #[.int .i64 v1, .slice lo nl lc, .bool rs, .int .i64 kp, .slice none 0 0], .bool true]) (by simp [results, Tryd.results17, go_sem, c0, c1, c2, c3, c4]) rfl ⟨v1, lo, nl, lc, rs, kp, true, rfl, HBB.out _ _ _ _ _ _, HFin.out _ (HKF.out _ _ _ _ _ _)⟩
  · have hn4 : ((n : Int) == 4) = false := by simp; omega
    have HI := Lib.hid (fnL_len (ws := ws) (by omega))
    have HB0 : Hid (Below w.heap.size w (w.alloc (.cells #[.int .i64 0, .slice none 0 0, .bool false, .int .i64 0, .slice none 0 0] 36))) := Lib.hid ((Below.refl _ _).alloc (Nat.le_refl _) _)
    clear hlen hE hR HE hz0
    go_enter Tryd.func17, Tryd.ntmps17
    go_wp2
    exact bodyPost_ret (v := .tuple #[.agg #[.int .i64 0, .slice none 0 0, .bool false, .int .i64 0, .slice none 0 0], .bool false]) (by simp [results, Tryd.results17, go_sem]) rfl ⟨0, none, 0, 0, false, 0, false, rfl, (Below.refl _ _).alloc (Nat.le_refl _) _, .inl ⟨rfl, HI.out⟩⟩
end Go.Proofs.YtbpobbadmbafaaaDoor
