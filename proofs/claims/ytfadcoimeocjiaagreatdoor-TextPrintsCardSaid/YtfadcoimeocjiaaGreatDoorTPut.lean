/-
  Package text: putLine, flagWord, keepWord, localsWord, putInstr.
-/
import Derived.Test.YtfadcoimeocjiaaGreatDoorTBuild
import Derived.Test.YtfadcoimeocjiaaGreatDoorTNumber
import Derived.Test.YtfadcoimeocjiaaGreatDoorTWordsOf
import Derived.Deep.DeepCutAuto
import Derived.Deep.RegionHeld3
namespace Go.Proofs.YtfadcoimeocjiaaGreatDoor
set_option linter.unusedVariables false
open Go.ChangeShapes Go.WideShapes Go.ChangeAt Go.RowKit

/-- block b is a Builder that holds these bytes -/
def BF (B b : Nat) (l : List UInt8) (w : World) : Prop := Lib.IsBuilderF 50 5 B b (Lib.byteCells l) w
/-- what a write to the Builder at b keeps -/
def WK (B b : Nat) (w w' : World) : Prop := Below B w w' ∧ Lib.OthersKept 5 (some b) w w'
theorem WK.trans {B b : Nat} {x y z : World} (h : WK B b x y) (k : WK B b y z) : WK B b x z := ⟨h.1.trans k.1, h.2.trans k.2⟩
theorem WK.refl (B b : Nat) (w : World) : WK B b w w := ⟨Below.refl _ _, Lib.OthersKept.refl _ _ _⟩
theorem WK.below {B b : Nat} {w w' : World} (h : Below w.heap.size w w') (hB : B ≤ w.heap.size) : WK B b w w' := ⟨h.mono hB, fun k o ho _ _ => (h.block k (Array.getElem?_eq_some_iff.1 ho).1).trans ho⟩
theorem WK.blk {B b g : Nat} {w w' : World} {t : TypeId} {cs : Array Value} (h : WK B b w w') (hb : Blk w g t cs) (hg : g ≠ b) (ht : t ≠ 5) : Blk w' g t cs :=
  h.2 g _ hb (fun e => hg (by injection e)) (fun c fz e => ht (by injection e))
theorem bf_own {B size n : Nat} {w w' : World} {e : TypeId} {v : Value} {xs : List Value} (h : w.ownsRowF B e size v n xs) (hb : Below w.heap.size w w') : w'.ownsRowF B e size v n xs := by
  obtain ⟨h1, h2⟩ := h
  refine ⟨h1, ?_⟩
  rcases h2 with h2 | ⟨g, cap, cur, fz, rfl, hg, hk, hr⟩
  · exact .inl h2
  · exact .inr ⟨g, cap, cur, fz, rfl, hg, (hb.block g (Array.getElem?_eq_some_iff.1 hk).1).trans hk, hr⟩
theorem bf_below {B b : Nat} {l : List UInt8} {w w' : World} (h : BF B b l w) (hb : Below w.heap.size w w') : BF B b l w' := by
  have key : ∀ p, Lib.BuilderAtF 50 5 B b p (Lib.byteCells l) w → Lib.BuilderAtF 50 5 B b p (Lib.byteCells l) w' := fun p hp => by
    have hlt := hp.lt
    obtain ⟨hB, v, hk, hown, hne⟩ := hp
    exact ⟨hB, v, (hb.block b hlt).trans hk, bf_own hown hb, hne⟩
  exact h.elim (fun x => .inl (key _ x)) (fun x => .inr (key _ x))
theorem bf_lt {B b : Nat} {l : List UInt8} {w : World} (h : BF B b l w) : B ≤ b ∧ b < w.heap.size := h.elim (fun x => ⟨x.1, x.lt⟩) (fun x => ⟨x.1, x.lt⟩)
theorem ws_any (B b : Nat) (l s : List UInt8) (X : ByteArray) (hX : X = str s) (w : World) (h : BF B b l w) (hlen : l.length + s.length ≤ 140737488355328) (hBw : B ≤ w.heap.size) :
    Calls Tryz.prog 30 #[.pointer (some ⟨b, 0, none⟩), .string X] w fun e w' => e = .returned (.tuple #[.int .i64 X.size, .nilIface]) ∧ BF B b (l ++ s) w' ∧ WK B b w w' := by
  subst hX
  refine (write_any B b (Lib.byteCells l) (str s) w h (by rw [Lib.byteCells_length, str_size]; exact hlen) hBw).mono ?_
  rintro e w' ⟨rfl, h1, h2, h3⟩
  refine ⟨rfl, ?_, h2, h3⟩
  unfold BF
  rw [Lib.byteCells_append]
  exact h1
theorem wb_any (B b : Nat) (l : List UInt8) (x : UInt8) (n : Int) (hn : n = (x.toNat : Int)) (w : World) (h : BF B b l w) (hlen : l.length + 1 ≤ 140737488355328) (hBw : B ≤ w.heap.size) :
    Calls Tryz.prog 31 #[.pointer (some ⟨b, 0, none⟩), .int .u8 n] w fun e w' => e = .returned .nilIface ∧ BF B b (l ++ [x]) w' ∧ WK B b w w' := by
  subst hn
  refine (writeByte_any B b (Lib.byteCells l) x.toNat w h (by rw [Lib.byteCells_length]; exact hlen) hBw).mono ?_
  rintro e w' ⟨rfl, h1, h2, h3⟩
  refine ⟨rfl, ?_, h2, h3⟩
  unfold BF
  rw [Lib.byteCells_append]
  exact h1

/-- a line of words -/
def blankW (ws : List (List UInt8)) : List UInt8 := ws.flatMap (fun w => 32 :: w)
theorem blankW_snoc {ws : List (List UInt8)} {j : Nat} {x : List UInt8} (h : ws[j]? = some x) : blankW (ws.take (j + 1)) = blankW (ws.take j) ++ [32] ++ x := by
  unfold blankW
  rw [List.take_add_one, h, List.flatMap_append]
  simp
theorem blankW_take_le (ws : List (List UInt8)) (j : Nat) : (blankW (ws.take j)).length ≤ (blankW ws).length := by
  have : blankW ws = blankW (ws.take j) ++ blankW (ws.drop j) := by unfold blankW; rw [← List.flatMap_append, List.take_append_drop]
  rw [this, List.length_append]; omega

set_option maxHeartbeats 4000000 in
theorem putLine_any (B b N : Nat) (l first : List UInt8) (ws : List (List UInt8)) (A : Option Addr) (n c : Nat) (X : ByteArray) (hX : X = str first) (w : World) (hB : BF B b l w) (hBw : B ≤ w.heap.size) (hn : ws.length = n) (hA : n = 0 ∨ (A = some ⟨N, 0, none⟩ ∧ Blk w N 9 (strs ws).toArray ∧ N ≠ b))
    (hlen : l.length + first.length + (blankW ws).length + 1 ≤ 140737488355328) :
    Calls Tryz.prog 12 #[.pointer (some ⟨b, 0, none⟩), .string X, .slice A n c] w fun e w' => e = .returned (.tuple #[]) ∧ BF B b (l ++ first ++ blankW ws ++ [10]) w' ∧ WK B b w w' := by
  have HB := Lib.hid hB
  have HN := Lib.hid hn
  have HA := Lib.hid hA
  have HL := Lib.hid hlen
  have HX := Lib.hid hX
  have hn32 : n ≤ 140737488355328 := by
    have : ws.length ≤ (blankW ws).length := by
      clear hn hA hlen HN HA HL
      induction ws with
      | nil => simp
      | cons x r ih => have e : blankW (x :: r) = 32 :: x ++ blankW r := rfl; rw [e]; simp; omega
    omega
  clear hB hn hA hlen hX
  go_enter Tryz.func12, Tryz.ntmps12
  go_wp2_with (go_at_call 30; refine (ws_any B b l first X HX.out _ HB.out (by have := HL.out; omega) hBw).mono ?_; rintro e w1 ⟨rfl, h1, k1⟩; refine Hid.out ?_)
  have H1 := Lib.hid h1
  have K1 := Lib.hid k1
  have hz1 : w.heap.size ≤ w1.heap.size := k1.1.size
  clear h1 k1
  refine Lib.hid ?_
  go_wp2
  go_loopw [13] (fun i wr => ∃ j : Nat, j ≤ n ∧ i = .int .i64 j ∧ Hid (BF B b (l ++ first ++ blankW (ws.take j)) wr) ∧ Hid (WK B b w wr)) (fun i _ => n - (intOf i).toNat)
  case atStart => exact ⟨0, by omega, rfl, Lib.hid (by have := H1.out; simpa [blankW] using this), K1⟩
  case round =>
    clear H1 K1
    obtain ⟨j, hj, rfl, HBr, HW⟩ := hrel
    have hzr : w.heap.size ≤ wr.heap.size := HW.out.1.size
    have htk := blankW_take_le ws j
    have HT := Lib.hid htk
    clear htk
    by_cases hlt : j < n
    · obtain ⟨x, hx⟩ : ∃ x, ws[j]? = some x := ⟨_, List.getElem?_eq_getElem (by have := HN.out; omega)⟩
      have hAA : A = some ⟨N, 0, none⟩ := by
        rcases HA.out with h | h
        · omega
        · exact h.1
      subst hAA
      have HBk : Hid (Blk wr N 9 (strs ws).toArray) := Lib.hid (by
        rcases HA.out with h | h
        · omega
        · exact HW.out.blk h.2.1 h.2.2 (by decide))
      obtain ⟨Y, HY⟩ : ∃ Y, Hid (Y = str x) := ⟨_, rfl⟩
      have cx : wr.cell? ⟨N, j, none⟩ = some (.string Y) := by
        rw [HBk.out.cell j, HY.out]
        unfold strs
        simp [hx]
      have hbs := blankW_snoc hx
      have hle2 := blankW_take_le ws (j + 1)
      rw [hbs] at hle2
      simp only [List.length_append, List.length_cons, List.length_nil] at hle2
      have HLE := Lib.hid hle2
      have HBS := Lib.hid hbs
      clear hx hbs hle2
      go_wp2_with (go_at_call 31; refine (wb_any B b (l ++ first ++ blankW (ws.take j)) 32 _ rfl _ HBr.out (by have := HL.out; have := HT.out; simp only [List.length_append]; omega) (by omega)).mono ?_; rintro e w2 ⟨rfl, h2, k2⟩; refine Hid.out ?_)
      have H2 := Lib.hid h2
      have K2 := Lib.hid (HW.out.trans k2)
      have hz2 : wr.heap.size ≤ w2.heap.size := k2.1.size
      clear h2 k2
      refine Lib.hid ?_
      go_wp2_with (go_at_call 30; refine (ws_any B b (l ++ first ++ blankW (ws.take j) ++ [32]) x Y HY.out _ H2.out (by have := HL.out; have := HLE.out; simp only [List.length_append, List.length_cons, List.length_nil]; omega) (by omega)).mono ?_; rintro e w3 ⟨rfl, h3, k3⟩; refine Hid.out ?_)
      have H3 : Hid (BF B b (l ++ first ++ blankW (ws.take (j + 1))) w3) := Lib.hid (by rw [HBS.out]; simpa using h3)
      have K3 := Lib.hid (K2.out.trans k3)
      clear h3 k3
      refine Lib.hid ?_
      go_wp2
      go_roundw
      case rel => exact ⟨j + 1, by omega, by go_num, H3, K3⟩
      case measure => simp [intOf]; omega
    · obtain rfl : j = n := by omega
      have htl : ws.take j = ws := List.take_of_length_le (by have := HN.out; omega)
      rw [htl] at HBr
      clear htl
      go_wp2_with (go_at_call 30; refine (ws_any B b (l ++ first ++ blankW ws) [10] _ rfl _ HBr.out (by have := HL.out; simp only [List.length_append, List.length_cons, List.length_nil]; omega) (by omega)).mono ?_; rintro e w2 ⟨rfl, h2, k2⟩; refine Hid.out ?_)
      have H2 := Lib.hid h2
      have K2 := Lib.hid (HW.out.trans k2)
      clear h2 k2
      refine Lib.hid ?_
      go_wp2
      go_end0
      exact ⟨rfl, H2.out, K2.out⟩

set_option maxHeartbeats 1000000 in
theorem flagWord_any (f : Bool) (w : World) (hE : Env w.heap.size w) : Calls Tryz.prog 15 #[.bool f] w fun e w' => e = .returned (.string (str (flagW f))) ∧ Below w.heap.size w w' := by
  have h1 := printed_any 1 (by omega) w hE.here
  have h0 := printed_any 0 (by omega) w hE.here
  have e1 : Lib.decDigits 1 = [49] := by rw [Lib.decDigits]; rfl
  have e0 : Lib.decDigits 0 = [48] := by rw [Lib.decDigits]; rfl
  rw [e1] at h1
  rw [e0] at h0
  have H1 := Lib.hid h1
  have H0 := Lib.hid h0
  clear h1 h0 e1 e0 hE
  cases f
  · go_enter Tryz.func15, Tryz.ntmps15
    go_wp2_with (go_at_call 13; refine H0.out.mono ?_; rintro e w' ⟨rfl, hb⟩)
    go_ret
    exact ⟨rfl, hb⟩
  · go_enter Tryz.func15, Tryz.ntmps15
    go_wp2_with (go_at_call 13; refine H1.out.mono ?_; rintro e w' ⟨rfl, hb⟩)
    go_ret
    exact ⟨rfl, hb⟩

set_option maxHeartbeats 1000000 in
theorem keepWord_any (k : Int) (h0 : -1 ≤ k) (h1 : k ≤ 254) (w : World) (hE : Env w.heap.size w) : Calls Tryz.prog 16 #[.int .i64 k] w fun e w' => e = .returned (.string (str (keepW k))) ∧ Below w.heap.size w w' := by
  by_cases hk : k = -1
  · subst hk
    clear hE h0 h1
    go_enter Tryz.func16, Tryz.ntmps16
    go_wp2
    go_ret
    exact ⟨rfl, Below.refl _ _⟩
  · obtain ⟨u, rfl⟩ : ∃ u : Nat, k = u := ⟨k.toNat, by omega⟩
    have hq : ((u : Int) == -1) = false := by simp
    have H := Lib.hid (printed_any u (by omega) w hE.here)
    have HK : Hid (keepW u = Lib.decDigits u) := Lib.hid (by unfold keepW; rw [if_neg hk, Int.toNat_natCast])
    have hu : (u : Int) ≤ 254 := h1
    rw [HK.out]
    clear hE hk h0 h1
    go_enter Tryz.func16, Tryz.ntmps16
    go_wp2_with (go_at_call 13; refine H.out.mono ?_; rintro e w' ⟨rfl, hb⟩)
    go_ret
    exact ⟨rfl, hb⟩
end Go.Proofs.YtfadcoimeocjiaaGreatDoor
