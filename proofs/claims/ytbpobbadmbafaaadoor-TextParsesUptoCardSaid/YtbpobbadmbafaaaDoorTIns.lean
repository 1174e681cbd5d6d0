/-
  Package text: instrOf.
-/
import Derived.Test.YtbpobbadmbafaaaDoorTOps
import Derived.Test.YtbpobbadmbafaaaDoorTWordsOf
namespace Go.Proofs.YtbpobbadmbafaaaDoor
set_option linter.unusedVariables false
open Go.ChangeShapes Go.WideShapes Go.ChangeAt Go.RowKit

def InsPost (nm : List UInt8) (ws : List (List UInt8)) (w : World) (e : Ending) (w' : World) : Prop :=
  ∃ (o a m : Int) (ok : Bool), e = .returned (.tuple #[.agg #[.int .u8 o, .int .i64 a, .int .u64 m], .bool ok]) ∧ Below w.heap.size w w' ∧ ((ok = false ∧ insL nm ws = none) ∨ (ok = true ∧ insL nm ws = some ⟨o, a, m⟩))
/-- one word of a row of words -/
theorem words_at {w : World} {B n : Nat} {A : Option Addr} {ws : List (List UInt8)} (h : Reads w B 1 A n (strs ws)) (hn : 0 < n) : ∃ b off, A = some ⟨b, off, none⟩ ∧ b < B ∧ ∀ (k : Nat) (x : List UInt8), ws[k]? = some x → w.cell? ⟨b, off + k, none⟩ = some (.string (str x)) := by
  obtain ⟨b, off, rfl, hb, hc⟩ := h.lit (by omega) (by omega)
  exact ⟨b, off, rfl, hb, fun k x hx => hc _ _ (by unfold strs; rw [List.getElem?_map, hx]; rfl)⟩
/-- the instruction's cells, behind whatever made memory -/
theorem ins_cells {w w' : World} {o a m : Int} (hb : Below (w.heap.size + 1) (w.alloc (.cells #[.int .u8 o, .int .i64 a, .int .u64 m] 40)) w') :
    w'.cell? ⟨w.heap.size, 0, none⟩ = some (.int .u8 o) ∧ w'.cell? ⟨w.heap.size, 1, none⟩ = some (.int .i64 a) ∧ w'.cell? ⟨w.heap.size, 2, none⟩ = some (.int .u64 m) ∧ (∀ i, w'.frozen? ⟨w.heap.size, i, none⟩ = false) ∧ Below w.heap.size w w' := by
  have hx := (Blk.new w 40 #[.int .u8 o, .int .i64 a, .int .u64 m]).below hb (by omega)
  exact ⟨hx.cell 0, hx.cell 1, hx.cell 2, hx.frozen, ((Below.refl _ _).alloc (Nat.le_refl _) _).trans (hb.mono (by omega))⟩

theorem insL_zero {nm : List UInt8} {op : Nat} (h : opL nm = some op) (ws : List (List UInt8)) (hg : gOp op = 0) : insL nm ws = if ws = [] then some ⟨(op : Int), 0, 0⟩ else none := by
  unfold insL
  simp only [h, hg, if_true]
theorem insL_one {nm : List UInt8} {op : Nat} (h : opL nm = some op) (hg : gOp op ≠ 0) (x : List UInt8) : insL nm [x] = (numLe (gOp op) x).map (fun v : Nat => if op = 1 then (⟨(op : Int), 0, (v : Int)⟩ : Ins) else ⟨(op : Int), (v : Int), 0⟩) := by
  unfold insL
  simp only [h, if_neg hg]
  cases numLe (gOp op) x with
  | none => rfl
  | some v => by_cases h1 : op = 1 <;> simp [h1]
theorem insL_bad {nm : List UInt8} {op : Nat} (h : opL nm = some op) (ws : List (List UInt8)) (hg : gOp op ≠ 0) (hl : ws.length ≠ 1) : insL nm ws = none := by
  unfold insL
  simp only [h, if_neg hg]
  match ws, hl with
  | [], _ => rfl
  | [x], h => exact absurd rfl h
  | _ :: _ :: _, _ => rfl

set_option maxHeartbeats 2000000 in
theorem instrOf_any (nm : List UInt8) (ws : List (List UInt8)) (B : Nat) (A : Option Addr) (n c : Nat) (w : World) (hR : Reads w B 1 A n (strs ws)) (hB : B ≤ w.heap.size) (hn : ws.length = n) (hlen : ∀ x ∈ ws, x.length ≤ 4294967296) (hE : Env w.heap.size w) :
    Calls Tryd.prog 18 #[.string (str nm), .slice A n c] w (InsPost nm ws w) := by
  obtain ⟨X, HX⟩ : ∃ X, Hid (X = str nm) := ⟨_, rfl⟩
  have HE : Hid (Env (w.heap.size + 1) (w.alloc (.cells #[.int .u8 0, .int .i64 0, .int .u64 0] 40))) := Lib.hid (hE.at_ ((Below.refl _ _).alloc (Nat.le_refl _) _) (by omega))
  have HA : Hid (Below w.heap.size w (w.alloc (.cells #[.int .u8 0, .int .i64 0, .int .u64 0] 40))) := Lib.hid ((Below.refl _ _).alloc (Nat.le_refl _) _)
  have HO := Lib.hid (opOf_any nm (w.alloc (.cells #[.int .u8 0, .int .i64 0, .int .u64 0] 40)) (hE.on HA.out).here)
  have HN := Lib.hid hn
  rw [← HX.out] at HO ⊢
  clear hE hn
  cases hop : opL nm with
  | none =>
    have HI : Hid (insL nm ws = none) := Lib.hid (by unfold insL; rw [hop])
    unfold OpPost at HO
    rw [hop] at HO
    clear hop hR hlen HE
    go_enter Tryd.func18, Tryd.ntmps18
    go_wp2_with (go_at_call 33; refine HO.out.mono ?_; rintro e w2 ⟨rfl, rfl⟩)
    exact bodyPost_ret (v := .tuple #[.agg #[.int .u8 0, .int .i64 0, .int .u64 0], .bool false]) (by simp [results, Tryd.results18, go_sem]) rfl ⟨0, 0, 0, false, rfl, (Below.refl _ _).alloc (Nat.le_refl _) _, .inl ⟨rfl, HI.out⟩⟩
  | some op =>
    obtain ⟨o1, o2, _⟩ := opL_some hop
    unfold OpPost at HO
    rw [hop] at HO
    have HI0 : Hid (gOp op = 0 → insL nm ws = if ws = [] then some ⟨(op : Int), 0, 0⟩ else none) := Lib.hid (insL_zero hop ws)
    have HI1 : Hid (gOp op ≠ 0 → ∀ x, ws = [x] → insL nm ws = (numLe (gOp op) x).map (fun v : Nat => if op = 1 then (⟨(op : Int), 0, (v : Int)⟩ : Ins) else ⟨(op : Int), (v : Int), 0⟩)) := Lib.hid (fun h x e => by rw [e]; exact insL_one hop h x)
    have HI2 : Hid (gOp op ≠ 0 → ws.length ≠ 1 → insL nm ws = none) := Lib.hid (insL_bad hop ws)
    simp only [Option.getD_some, Option.isSome_some] at HO
    have HG := Lib.hid (greatest_any op (by omega))
    obtain ⟨g, hg⟩ : ∃ g, gOp op = g := ⟨_, rfl⟩
    rw [hg] at HG HI0 HI1 HI2
    have HGL : Hid (g < 18446744073709551616) := Lib.hid (by rw [← hg]; unfold gOp; split <;> (try split) <;> (try split) <;> omega)
    have HG2 : Hid (op ≠ 1 → g ≤ 65535) := Lib.hid (fun h => by rw [← hg]; unfold gOp; rw [if_neg h]; split <;> (try split) <;> omega)
    clear hop hg
    by_cases hg0 : g = 0
    · subst hg0
      by_cases hws : ws = []
      · obtain rfl : n = 0 := by have := HN.out; subst hws; simpa using this.symm
        have HI : Hid (insL nm ws = some ⟨(op : Int), 0, 0⟩) := Lib.hid (by rw [HI0.out rfl, if_pos hws])
        clear hws hR hlen HE HI0 HI1 HI2
        go_enter Tryd.func18, Tryd.ntmps18
        go_wp2_with (first
          | (go_at_call 33; refine HO.out.mono ?_; rintro e w2 ⟨rfl, rfl⟩)
          | (go_at_call 34; refine (HG.out _).mono ?_; rintro e w2 ⟨rfl, rfl⟩))
        exact bodyPost_ret (v := .tuple #[.agg #[.int .u8 op, .int .i64 0, .int .u64 0], .bool true]) (by simp [results, Tryd.results18, go_sem]) rfl ⟨op, 0, 0, true, rfl, (Below.refl _ _).alloc (Nat.le_refl _) _, .inr ⟨rfl, HI.out⟩⟩
      · have hn0 : ((n : Int) == 0) = false := by
          have := HN.out
          have : n ≠ 0 := fun h => hws (List.eq_nil_of_length_eq_zero (by omega))
          simp; omega
        have HI : Hid (insL nm ws = none) := Lib.hid (by rw [HI0.out rfl, if_neg hws])
        clear hws hR hlen HE HI0 HI1 HI2
        go_enter Tryd.func18, Tryd.ntmps18
        go_wp2_with (first
          | (go_at_call 33; refine HO.out.mono ?_; rintro e w2 ⟨rfl, rfl⟩)
          | (go_at_call 34; refine (HG.out _).mono ?_; rintro e w2 ⟨rfl, rfl⟩))
        exact bodyPost_ret (v := .tuple #[.agg #[.int .u8 op, .int .i64 0, .int .u64 0], .bool false]) (by simp [results, Tryd.results18, go_sem]) rfl ⟨op, 0, 0, false, rfl, (Below.refl _ _).alloc (Nat.le_refl _) _, .inl ⟨rfl, HI.out⟩⟩
    · have q0 : ((g : Int) == 0) = false := by simp; omega
      by_cases h1 : n = 1
      · subst h1
        obtain ⟨x, rfl⟩ := List.length_eq_one_iff.1 HN.out
        obtain ⟨b, off, rfl, hb, hc⟩ := words_at hR (by omega)
        have hc0 := hc 0 x rfl
        simp only [Nat.add_zero] at hc0
        obtain ⟨Y, HY⟩ : ∃ Y, Hid (Y = str x) := ⟨_, rfl⟩
        have HNU : Hid (∀ W, Below w.heap.size w W → Env W.heap.size W → Calls Tryd.prog 30 #[.string (str x), .int .u64 g] W fun e w' => e = .returned (.tuple #[.int .u64 ((numLe g x).getD 0 : Nat), .bool (numLe g x).isSome]) ∧ Below W.heap.size W w') := Lib.hid fun W _ hW => number_any g x HGL.out (hlen x (by simp)) W hW
        rw [← HY.out] at hc0 HNU
        have hc1 : (w.alloc (.cells #[.int .u8 0, .int .i64 0, .int .u64 0] 40)).cell? ⟨b, off, none⟩ = some (.string Y) := by rw [World.cell?_alloc_lt _ _ _ (by simp; omega)]; exact hc0
        obtain ⟨v, hv⟩ : ∃ v, (numLe g x).getD 0 = v := ⟨_, rfl⟩
        obtain ⟨ok, hok⟩ : ∃ ok, (numLe g x).isSome = ok := ⟨_, rfl⟩
        have HIV : Hid ((ok = false ∧ insL nm [x] = none) ∨ (ok = true ∧ insL nm [x] = if op = 1 then some ⟨(op : Int), 0, (v : Int)⟩ else some ⟨(op : Int), (v : Int), 0⟩)) := by
          show _ ∨ _
          rw [HI1.out hg0 x rfl]
          cases hnl : numLe g x with
          | none => rw [hnl] at hok; exact .inl ⟨by rw [← hok]; rfl, rfl⟩
          | some u =>
            rw [hnl] at hok hv
            simp only [Option.getD_some] at hv
            subst hv
            refine .inr ⟨by rw [← hok]; rfl, ?_⟩
            rw [Option.map_some]
            split <;> rfl
        have HVL : Hid (v ≤ g) := Lib.hid (by
          rw [← hv]
          cases hnl : numLe g x with
          | none => simp
          | some u => simp; exact (numLe_some hnl).2.1)
        rw [hv, hok] at HNU
        clear hc hc0 hR hlen HI0 HI1 HI2 hv hok
        by_cases ho : op = 1
        · subst ho
          go_enter Tryd.func18, Tryd.ntmps18
          go_wp2_with (first
            | (go_at_call 33; refine HO.out.mono ?_; rintro e w2 ⟨rfl, rfl⟩)
            | (go_at_call 34; refine (HG.out _).mono ?_; rintro e w2 ⟨rfl, rfl⟩)
            | (go_at_call 30; refine (HNU.out _ HA.out (by rw [World.size_alloc]; exact HE.out)).mono ?_; rintro e w3 ⟨rfl, hb3⟩; refine Hid.out ?_))
          rw [World.size_alloc] at hb3
          obtain ⟨k0, k1, k2, kf, hbw⟩ := ins_cells hb3
          have f0 := kf 0
          have f1 := kf 1
          have f2 := kf 2
          have HBW := Lib.hid hbw
          clear hbw hb3 kf
          refine Lib.hid ?_
          go_wp2
          exact bodyPost_ret (v := .tuple #[.agg #[.int .u8 1, .int .i64 0, .int .u64 v], .bool ok]) (by simp [results, Tryd.results18, go_sem, k0, k1, k2]) rfl ⟨1, 0, v, ok, rfl, (((HBW.out.setCell (p := ⟨w.heap.size, 0, none⟩) (Nat.le_refl _) _).setCell (p := ⟨w.heap.size, 1, none⟩) (Nat.le_refl _) _).setCell (p := ⟨w.heap.size, 2, none⟩) (Nat.le_refl _) _), by have := HIV.out; simpa using this⟩
        · have q1 : ((op : Int) == 1) = false := by simp; omega
          have hvl : (v : Int) ≤ 65535 := by have := HVL.out; have := HG2.out ho; omega
          have HI3 : Hid ((ok = false ∧ insL nm [x] = none) ∨ (ok = true ∧ insL nm [x] = some ⟨(op : Int), (v : Int), 0⟩)) := by have := HIV.out; rw [if_neg ho] at this; exact this
          clear ho HIV
          go_enter Tryd.func18, Tryd.ntmps18
          go_wp2_with (first
            | (go_at_call 33; refine HO.out.mono ?_; rintro e w2 ⟨rfl, rfl⟩)
            | (go_at_call 34; refine (HG.out _).mono ?_; rintro e w2 ⟨rfl, rfl⟩)
            | (go_at_call 30; refine (HNU.out _ HA.out (by rw [World.size_alloc]; exact HE.out)).mono ?_; rintro e w3 ⟨rfl, hb3⟩; refine Hid.out ?_))
          rw [World.size_alloc] at hb3
          obtain ⟨k0, k1, k2, kf, hbw⟩ := ins_cells hb3
          have f0 := kf 0
          have f1 := kf 1
          have f2 := kf 2
          have HBW := Lib.hid hbw
          clear hbw hb3 kf
          refine Lib.hid ?_
          go_wp2
          exact bodyPost_ret (v := .tuple #[.agg #[.int .u8 op, .int .i64 v, .int .u64 0], .bool ok]) (by simp [results, Tryd.results18, go_sem, k0, k1, k2]) rfl ⟨op, v, 0, ok, rfl, (((HBW.out.setCell (p := ⟨w.heap.size, 0, none⟩) (Nat.le_refl _) _).setCell (p := ⟨w.heap.size, 1, none⟩) (Nat.le_refl _) _).setCell (p := ⟨w.heap.size, 2, none⟩) (Nat.le_refl _) _), HI3.out⟩
      · have q1 : ((n : Int) == 1) = false := by simp; omega
        have HI : Hid (insL nm ws = none) := Lib.hid (HI2.out hg0 (by rw [HN.out]; exact h1))
        clear hR hlen HE HI0 HI1 HI2 h1 hg0
        go_enter Tryd.func18, Tryd.ntmps18
        go_wp2_with (first
          | (go_at_call 33; refine HO.out.mono ?_; rintro e w2 ⟨rfl, rfl⟩)
          | (go_at_call 34; refine (HG.out _).mono ?_; rintro e w2 ⟨rfl, rfl⟩))
        exact bodyPost_ret (v := .tuple #[.agg #[.int .u8 0, .int .i64 0, .int .u64 0], .bool false]) (by simp [results, Tryd.results18, go_sem]) rfl ⟨0, 0, 0, false, rfl, (Below.refl _ _).alloc (Nat.le_refl _) _, .inl ⟨rfl, HI.out⟩⟩
end Go.Proofs.YtbpobbadmbafaaaDoor
