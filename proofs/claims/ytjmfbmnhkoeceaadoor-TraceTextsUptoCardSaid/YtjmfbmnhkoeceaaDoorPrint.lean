/-
  Print of package trace: one word for each event, and one for the ending.
-/
import Derived.Test.YtjmfbmnhkoeceaaDoorFmt
import Derived.Test.YtjmfbmnhkoeceaaDoorBuild
import Derived.Laws.Concat
namespace Go.Proofs.YtjmfbmnhkoeceaaDoor
set_option linter.unusedVariables false
open Go.ChangeShapes Go.WideShapes Go.ChangeAt Go.RowKit

/-- the table, whatever is done from block B on -/
def TabB (B : Nat) (w : World) (u : Nat) : Prop := u < 100 ∨ Lib.TabBelow Tryd.prog B w "internal/strconv.uint64pow10" .u64 Lib.pow10Tab
theorem TabB.here {B : Nat} {w : World} {u : Nat} (h : TabB B w u) : TabFor w u := h.elim .inl (fun x => .inr x.here)
theorem TabB.on {B : Nat} {w w' : World} {u : Nat} (h : TabB B w u) (hb : Below B w w') : TabB B w' u := h.elim .inl (fun x => .inr (x.on hb))

theorem TabB.more {B B' : Nat} {w : World} {u : Nat} (h : TabB B w u) (hB : B ≤ B') : TabB B' w u := h.elim .inl (fun x => .inr fun w' hb => x w' (hb.mono hB))

/-- a word that begins so and has a number behind it -/
def numWord (l : List UInt8) (v : Int) : List UInt8 := l ++ Lib.decDigits v.toNat
def evW (x : Ev) : List UInt8 :=
  if x.1 = 1 then numWord [111, 117, 116, 61] x.2 else if x.1 = 2 then numWord [105, 110, 61] x.2 else [63]
def endW (e : Ev) : List UInt8 :=
  if e.1 = 1 then numWord [101, 120, 105, 116, 61] e.2 else if e.1 = 2 then numWord [112, 97, 110, 105, 99, 61] e.2
  else if e.1 = 3 then [102, 117, 101, 108] else if e.1 = 4 then [115, 116, 97, 99, 107] else if e.1 = 5 then [115, 116, 117, 99, 107] else [63]
def evsW (l : List Ev) : List UInt8 := l.flatMap fun x => evW x ++ [32]
/-- what Print answers -/
def printL (l : List Ev) (e : Ev) : List UInt8 := evsW l ++ endW e

/-- a string of these bytes -/
def str (l : List UInt8) : ByteArray := ⟨l.toArray⟩
theorem str_append (a b : List UInt8) : str a ++ str b = str (a ++ b) := by
  apply ByteArray.ext
  simp [str, ByteArray.data_append]
theorem str_size (l : List UInt8) : (str l).size = l.length := by simp [str, ByteArray.size]
theorem ret_str {a b : ByteArray} (h : a = b) : Ending.returned (.string a) = .returned (.string b) := by rw [h]

theorem nDigits_le (u : Nat) (hu : u < 18446744073709551616) : (Lib.decDigits u).length ≤ 20 := by
  rw [Lib.decDigits_length]
  rcases Nat.eq_zero_or_pos u with h | h
  · subst h; rw [Lib.nDigits_small (by omega)]; omega
  · have := Lib.numDigits_eq u h hu; split at this <;> omega

set_option maxHeartbeats 1000000 in
theorem evword_any (k : Int) (u : Nat) (hu : u < 18446744073709551616) (w : World) (hT : TabB w.heap.size w u) :
    Calls Tryd.prog 28 #[.agg #[.int .i64 k, .int .u64 u]] w fun e w' => e = .returned (.string (str (evW (k, u)))) ∧ Below w.heap.size w w' := by
  have HT := Lib.hid hT
  clear hT
  by_cases h1 : k = 1
  · subst h1
    go_enter Tryd.func28, Tryd.ntmps28
    go_wp2_with (go_at_call 39; refine (fmt_any u hu _ (HT.out.on ((Below.refl _ _).alloc (Nat.le_refl _) _)).here).mono ?_; rintro e w' ⟨rfl, hb⟩)
    · have := nDigits_le u hu
      omega
    · go_ret
      exact ⟨ret_str (str_append _ _), ((Below.refl _ _).alloc (Nat.le_refl _) _).trans (hb.mono (by simp))⟩
  · by_cases h2 : k = 2
    · subst h2
      go_enter Tryd.func28, Tryd.ntmps28
      go_wp2_with (go_at_call 39; refine (fmt_any u hu _ (HT.out.on ((Below.refl _ _).alloc (Nat.le_refl _) _)).here).mono ?_; rintro e w' ⟨rfl, hb⟩)
      · have := nDigits_le u hu
        omega
      · go_ret
        exact ⟨ret_str (str_append _ _), ((Below.refl _ _).alloc (Nat.le_refl _) _).trans (hb.mono (by simp))⟩
    · have hr : evW (k, u) = [63] := by simp [evW, h1, h2]
      have HR := Lib.hid hr
      clear hr
      go_enter Tryd.func28, Tryd.ntmps28
      go_wp2
      go_ret
      exact ⟨by rw [HR.out]; rfl, (Below.refl _ _).alloc (Nat.le_refl _) _⟩

set_option maxHeartbeats 1000000 in
theorem endword_any (k : Int) (u : Nat) (hu : u < 18446744073709551616) (w : World) (hT : TabB w.heap.size w u) :
    Calls Tryd.prog 29 #[.agg #[.int .i64 k, .int .u64 u]] w fun e w' => e = .returned (.string (str (endW (k, u)))) ∧ Below w.heap.size w w' := by
  have HT := Lib.hid hT
  clear hT
  by_cases h1 : k = 1
  · subst h1
    go_enter Tryd.func29, Tryd.ntmps29
    go_wp2_with (go_at_call 39; refine (fmt_any u hu _ (HT.out.on ((Below.refl _ _).alloc (Nat.le_refl _) _)).here).mono ?_; rintro e w' ⟨rfl, hb⟩)
    · have := nDigits_le u hu
      omega
    · go_ret
      exact ⟨ret_str (str_append _ _), ((Below.refl _ _).alloc (Nat.le_refl _) _).trans (hb.mono (by simp))⟩
  · by_cases h2 : k = 2
    · subst h2
      go_enter Tryd.func29, Tryd.ntmps29
      go_wp2_with (go_at_call 39; refine (fmt_any u hu _ (HT.out.on ((Below.refl _ _).alloc (Nat.le_refl _) _)).here).mono ?_; rintro e w' ⟨rfl, hb⟩)
      · have := nDigits_le u hu
        omega
      · go_ret
        exact ⟨ret_str (str_append _ _), ((Below.refl _ _).alloc (Nat.le_refl _) _).trans (hb.mono (by simp))⟩
    · by_cases h3 : k = 3 ∨ k = 4 ∨ k = 5
      · rcases h3 with rfl | rfl | rfl
        all_goals
          go_enter Tryd.func29, Tryd.ntmps29
          go_wp2
          go_ret
          exact ⟨rfl, (Below.refl _ _).alloc (Nat.le_refl _) _⟩
      · have h4 : ¬ k = 3 := by omega
        have h5 : ¬ k = 4 := by omega
        have h6 : ¬ k = 5 := by omega
        have hr : endW (k, u) = [63] := by simp [endW, h1, h2, h4, h5, h6]
        have HR := Lib.hid hr
        clear hr h3
        go_enter Tryd.func29, Tryd.ntmps29
        go_wp2
        go_ret
        exact ⟨by rw [HR.out]; rfl, (Below.refl _ _).alloc (Nat.le_refl _) _⟩

theorem own_below {w w' : World} {B size n : Nat} {e : TypeId} {v : Value} {xs : List Value} (h : w.ownsRowF B e size v n xs) (hb : Below w.heap.size w w') : w'.ownsRowF B e size v n xs := by
  obtain ⟨h1, h2⟩ := h
  refine ⟨h1, ?_⟩
  rcases h2 with h2 | ⟨g, cap, cur, fz, rfl, hg, hk, hr⟩
  · exact .inl h2
  · have hlt : g < w.heap.size := by
      rcases Nat.lt_or_ge g w.heap.size with h | h
      · exact h
      · rw [Array.getElem?_eq_none h] at hk; cases hk
    exact .inr ⟨g, cap, cur, fz, rfl, hg, (hb.block g hlt).trans hk, hr⟩
theorem builder_at_below {T e : TypeId} {B b : Nat} {p : Value} {bs : List Value} {w w' : World} (h : Lib.BuilderAtF T e B b p bs w) (hb : Below w.heap.size w w') : Lib.BuilderAtF T e B b p bs w' := by
  have hlt := h.lt
  obtain ⟨hB, v, hk, hown, hne⟩ := h
  exact ⟨hB, v, (hb.block b hlt).trans hk, own_below hown hb, hne⟩
theorem builder_below {T e : TypeId} {B b : Nat} {bs : List Value} {w w' : World} (h : Lib.IsBuilderF T e B b bs w) (hb : Below w.heap.size w w') : Lib.IsBuilderF T e B b bs w' :=
  h.elim (fun x => .inl (builder_at_below x hb)) (fun x => .inr (builder_at_below x hb))

theorem evW_le (x : Ev) (h : x.2.toNat < 18446744073709551616) : (evW x).length ≤ 24 := by
  have := nDigits_le _ h
  unfold evW numWord
  split
  · simp; omega
  · split
    · simp; omega
    · simp
theorem endW_le (x : Ev) (h : x.2.toNat < 18446744073709551616) : (endW x).length ≤ 26 := by
  have := nDigits_le _ h
  unfold endW numWord
  split
  · simp; omega
  · split
    · simp; omega
    · split
      · simp
      · split
        · simp
        · split <;> simp
theorem evsW_le (l : List Ev) (h : ∀ x ∈ l, x.2.toNat < 18446744073709551616) : (evsW l).length ≤ 25 * l.length := by
  induction l with
  | nil => simp [evsW]
  | cons x l ih =>
    have h1 := evW_le x (h x (by simp))
    have h2 := ih (fun y hy => h y (by simp [hy]))
    have e : evsW (x :: l) = (evW x ++ [32]) ++ evsW l := rfl
    rw [e, List.length_append, List.length_append, List.length_cons]
    simp only [List.length_cons, List.length_nil]
    omega
theorem evsW_snoc (l : List Ev) (k : Nat) (x : Ev) (h : l[k]? = some x) : evsW (l.take (k + 1)) = evsW (l.take k) ++ evW x ++ [32] := by
  rw [List.take_add_one, h]
  simp [evsW]

/-- what is asked of an event: its number is a word, and the table is there for it -/
def EvOk (B : Nat) (w : World) (x : Ev) : Prop := 0 ≤ x.2 ∧ x.2 < 18446744073709551616 ∧ TabB B w x.2.toNat

theorem print_fresh (w : World) (o : Obj) : Lib.IsBuilder 61 5 (w.heap.size + 1) (w.heap.size + 1) [] ((w.alloc o).alloc (.cells #[.pointer none, .slice none 0 0] 61)) := by
  have h := Lib.fresh_isBuilder 61 5 (w.alloc o)
  rw [World.size_alloc] at h
  exact h

set_option maxHeartbeats 4000000 in
theorem print_any (ao : Option Addr) (n c : Nat) (l : List Ev) (ek : Int) (eu : Int) (w : World) (h : Reads w w.heap.size 2 ao n (evc l)) (hl : l.length = n) (hn : n ≤ 1099511627776)
    (hev : ∀ x ∈ l, EvOk w.heap.size w x) (he : EvOk w.heap.size w (ek, eu)) :
    Calls Tryd.prog 19 #[.slice ao n c, .agg #[.int .i64 ek, .int .u64 eu]] w fun e w' => e = .returned (.string (str (printL l (ek, eu)))) ∧ Below w.heap.size w w' := by
  have HR := Lib.hid h
  have HL := Lib.hid hl
  have HE := Lib.hid hev
  have HF := Lib.hid he
  clear h hl hev he
  obtain ⟨u, rfl⟩ : ∃ u : Nat, eu = u := ⟨eu.toNat, by have := HF.out.1; omega⟩
  have hu : u < 18446744073709551616 := by have := HF.out.2.1; simp at this; omega
  have HU := Lib.hid hu
  clear hu
  go_enter Tryd.func19, Tryd.ntmps19
  go_wp2
  go_loopw [10] (fun i wr => ∃ k : Nat, k ≤ n ∧ i = .int .i64 k ∧ Hid (Lib.IsBuilderF 61 5 (w.heap.size + 1) (w.heap.size + 1) (Lib.byteCells (evsW (l.take k))) wr) ∧ Below (w.heap.size + 1) (w.alloc (.cells #[.int .i64 ek, .int .u64 u] 38)) wr) (fun i _ => n - (intOf i).toNat)
  case atStart => exact ⟨0, Nat.zero_le _, rfl, Lib.IsBuilderF.of (print_fresh w _), (Below.refl _ _).alloc (by simp) _⟩
  case round =>
    obtain ⟨k, hk, rfl, HB, hbel⟩ := hrel
    have hw : Below w.heap.size w wr := ((Below.refl _ _).alloc (Nat.le_refl _) _).trans (hbel.mono (by omega))
    have hsz := hbel.size
    simp only [World.size_alloc] at hsz
    have hlk : (evsW (l.take k)).length ≤ 25 * k := by
      have h := evsW_le (l.take k) (fun x hx => by have := HE.out x (List.mem_of_mem_take hx); have h1 := this.1; have h2 := this.2.1; omega)
      rw [List.length_take] at h
      omega
    by_cases hlt : k < n
    · obtain ⟨b1, o1, x, rfl, hb1, HX, x1, x2⟩ := (HR.out.below hw).ev HL.out hlt
      have hxm : x ∈ l := List.mem_of_getElem? HX.out
      obtain ⟨xk, xv⟩ := x
      obtain ⟨hx0, hx1, hxt⟩ := HE.out _ hxm
      simp only at hx0 hx1 hxt x1 x2
      obtain ⟨xu, rfl⟩ : ∃ xu : Nat, xv = xu := ⟨xv.toNat, by omega⟩
      have hxu : xu < 18446744073709551616 := by omega
      have hxl := evW_le (xk, (xu : Int)) (by simpa using hxu)
      rw [Int.toNat_natCast] at hxt
      have HXT := Lib.hid hxt
      have HXU := Lib.hid hxu
      have HXL := Lib.hid hxl
      have HW := Lib.hid hw
      clear hx0 hx1 hxt hxm hxu hxl hw
      go_wp2_with (go_at_call 28; refine (evword_any xk xu HXU.out _ ((HXT.out.on (HW.out.alloc HW.out.size _)).more (by simp; omega))).mono ?_; rintro e w2 ⟨rfl, hb2⟩; refine Hid.out ?_)
      have HB2 := Lib.hid (builder_below (HB.out.alloc _) hb2)
      have hs2 := hb2.size
      simp only [World.size_alloc] at hs2
      have hbw2 : Below (w.heap.size + 1) (w.alloc (.cells #[.int .i64 ek, .int .u64 u] 38)) w2 := (hbel.alloc (by omega) _).trans (hb2.mono (by simp; omega))
      refine Lib.hid ?_
      go_wp2_with (go_at_call 27; refine (write_any (w.heap.size + 1) (w.heap.size + 1) (Lib.byteCells (evsW (l.take k))) (str (evW (xk, (xu : Int)))) _ HB2.out (by have := HXL.out; rw [Lib.byteCells_length, str_size]; omega) (by omega)).mono ?_; rintro e w3 ⟨rfl, h3, hb3, _⟩; refine Hid.out ?_)
      have HB3 : Hid (Lib.IsBuilderF 61 5 (w.heap.size + 1) (w.heap.size + 1) (Lib.byteCells (evsW (l.take k) ++ evW (xk, (xu : Int)))) w3) := by
        rw [Lib.byteCells_append]
        exact h3
      have hs3 := hb3.size
      clear h3
      refine Lib.hid ?_
      go_wp2_with (go_at_call 27; refine (write_any (w.heap.size + 1) (w.heap.size + 1) (Lib.byteCells (evsW (l.take k) ++ evW (xk, (xu : Int)))) (str [32]) _ HB3.out (by have := HXL.out; rw [Lib.byteCells_length, str_size, List.length_append]; simp; omega) (by omega)).mono ?_; rintro e w4 ⟨rfl, h4, hb4, _⟩; refine Hid.out ?_)
      have HB4 : Hid (Lib.IsBuilderF 61 5 (w.heap.size + 1) (w.heap.size + 1) (Lib.byteCells (evsW (l.take (k + 1)))) w4) := by
        rw [evsW_snoc _ _ _ HX.out, Lib.byteCells_append _ [32]]
        exact h4
      clear h4
      refine Lib.hid ?_
      go_wp2
      go_roundw
      case rel => exact ⟨k + 1, by omega, by go_num, HB4, (hbw2.trans hb3).trans hb4⟩
      case measure => simp [intOf]; omega
    · obtain rfl : k = n := by omega
      have c0 : wr.cell? ⟨w.heap.size, 0, none⟩ = some (.int .i64 ek) := by rw [hbel.cell (p := ⟨w.heap.size, 0, none⟩) (by simp), (Blk.new w _ _).cell]; rfl
      have c1 : wr.cell? ⟨w.heap.size, 1, none⟩ = some (.int .u64 u) := by rw [hbel.cell (p := ⟨w.heap.size, 1, none⟩) (by simp), (Blk.new w _ _).cell]; rfl
      have HW := Lib.hid hw
      have HT := Lib.hid (HF.out.2.2)
      have hle := endW_le (ek, (u : Int)) (by simpa using HU.out)
      have HLE := Lib.hid hle
      have hfull : l.take k = l := by rw [← HL.out]; exact List.take_length
      rw [hfull] at HB hlk
      clear hw hle hfull
      go_wp2_with (go_at_call 29; refine (endword_any ek u HU.out _ ((HT.out.on HW.out).more HW.out.size)).mono ?_; rintro e w2 ⟨rfl, hb2⟩; refine Hid.out ?_)
      have HB2 := Lib.hid (builder_below HB.out hb2)
      have hs2 := hb2.size
      refine Lib.hid ?_
      go_wp2_with (go_at_call 27; refine (write_any (w.heap.size + 1) (w.heap.size + 1) (Lib.byteCells (evsW l)) (str (endW (ek, (u : Int)))) _ HB2.out (by have := HLE.out; rw [Lib.byteCells_length, str_size]; omega) (by omega)).mono ?_; rintro e w3 ⟨rfl, h3, hb3, _⟩; refine Hid.out ?_)
      have HB3 : Hid (Lib.IsBuilderF 61 5 (w.heap.size + 1) (w.heap.size + 1) (Lib.byteCells (printL l (ek, (u : Int)))) w3) := by
        unfold printL
        rw [Lib.byteCells_append]
        exact h3
      have hs3 := hb3.size
      clear h3
      refine Lib.hid ?_
      go_wp2_with (go_at_call 30; refine (Tryd.Builder_String_any_k (w.heap.size + 1) (w.heap.size + 1) (printL l (ek, (u : Int))) _ HB3.out (by omega)).mono ?_; rintro e w4 ⟨rfl, _, hb4, _⟩)
      go_ret
      exact ⟨rfl, HW.out.trans (((hb2.mono (by omega)).trans (hb3.mono (by omega))).trans (hb4.mono (by omega)))⟩
end Go.Proofs.YtjmfbmnhkoeceaaDoor
