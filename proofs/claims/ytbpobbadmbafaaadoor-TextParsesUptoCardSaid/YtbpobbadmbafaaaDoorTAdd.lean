/-
  Package text: addLine.
-/
import Derived.Test.YtbpobbadmbafaaaDoorTProg
namespace Go.Proofs.YtbpobbadmbafaaaDoor
set_option linter.unusedVariables false
open Go.ChangeShapes Go.WideShapes Go.ChangeAt Go.RowKit

/-- what addLine leaves of what lay -/
def AddK (Bp base : Nat) (W W' : World) : Prop := KeepsOthers W W' ∧ (∀ b, b < base → b ≠ Bp → W'.heap[b]? = W.heap[b]?) ∧ Below Bp W W'
def AddCase (Bp base m : Nat) (ws : List (List UInt8)) (rs : List Raw) (W' : World) (ok : Bool) : Prop :=
  (ok = false ∧ addL (fns rs) ws = none) ∨ (ok = true ∧ ∃ (A : Option Addr) (n c : Nat) (rs' : List Raw), addL (fns rs) ws = some (fns rs') ∧ Boxed W' Bp 25 (.slice A n c) ∧ PO W' base (m + 1) A n c rs')
def AddPost (Bp base m : Nat) (ws : List (List UInt8)) (rs : List Raw) (W : World) (e : Ending) (W' : World) : Prop :=
  ∃ ok, e = .returned (.bool ok) ∧ AddK Bp base W W' ∧ AddCase Bp base m ws rs W' ok
theorem AddK.refl (Bp base : Nat) (W : World) : AddK Bp base W W := ⟨KeepsOthers.refl _, fun _ _ _ => rfl, Below.refl _ _⟩
theorem addK_below {Bp base : Nat} {W W' : World} (hb : Below W.heap.size W W') (h1 : base ≤ W.heap.size) (h2 : Bp ≤ base) : AddK Bp base W W' :=
  ⟨⟨hb.size, fun k o hk _ => (hb.block k (Array.getElem?_eq_some_iff.1 hk).1).trans hk⟩, fun b hb1 _ => hb.block b (by omega), hb.mono (by omega)⟩
theorem AddK.trans {Bp base : Nat} {X Y Z : World} (h : AddK Bp base X Y) (k : AddK Bp base Y Z) : AddK Bp base X Z := ⟨h.1.trans k.1, fun b h1 h2 => (k.2.1 b h1 h2).trans (h.2.1 b h1 h2), h.2.2.trans k.2.2⟩
theorem AddK.set {Bp base : Nat} (W : World) (p : Addr) (v : Value) (hp : p.block = Bp ∨ base ≤ p.block) (hB : Bp ≤ base) : AddK Bp base W (W.setCell p v) :=
  ⟨KeepsOthers.setCell _ _ _, fun b h1 h2 => Below.heap_setCell W p v b (by omega), (Below.refl Bp W).setCell (by omega) v⟩
theorem AddK.grown {Bp base : Nat} {W W' : World} {v : Value} {e : TypeId} {size n : Nat} {xs : List Value} (hr : W.ownsRow base e size v n xs) (hg : W.grownBy W' v.ownBlock) (h1 : base ≤ W.heap.size) (h2 : Bp ≤ base) : AddK Bp base W W' := by
  refine ⟨KeepsOthers.of_grownBy hg fun j p ej hj => ?_, fun b hb1 _ => hg.block b (by omega) fun e => ?_, (Below.refl Bp W).grown hg (by omega) fun k e => ?_⟩
  · rcases hr.2 with ⟨rfl, _⟩ | ⟨g, cap, cur, rfl, _, hgb, _⟩
    · simp [Value.ownBlock] at ej
    · obtain rfl : g = j := by simpa [Value.ownBlock] using ej
      rw [hgb] at hj; cases hj; rfl
  · have := own_lt hr e.symm; omega
  · have := own_lt hr e; omega
theorem hash_prefix (w : List UInt8) : Lib.hasPrefix w [35] = decide (w.head? = some 35) := by
  unfold Lib.hasPrefix
  cases w with
  | nil => rfl
  | cons b w => by_cases h : b = 35 <;> simp [List.isPrefixOf, h]; exact fun e => h e.symm

theorem reads_two (w : World) (t u : TypeId) (cs : Array Value) (ds : List Value) (size : Nat) (hs : ds.length = size) : Reads ((w.alloc (.cells cs t)).alloc (.cells ds.toArray u)) (w.heap.size + 2) size (some ⟨w.heap.size + 1, 0, none⟩) 1 ds := by
  have h := one_reads (w.alloc (.cells cs t)) u ds size hs
  rw [World.size_alloc] at h
  exact h
def fnCells (p : Int) (lo : Option Addr) (nl lc : Nat) (fr : Bool) (kp : Int) : List Value := [.int .i64 p, .slice lo nl lc, .bool fr, .int .i64 kp, .slice none 0 0]
theorem fnCells_one (p : Int) (lo : Option Addr) (nl lc : Nat) (fr : Bool) (kp : Int) : ∀ u ∈ fnCells p lo nl lc fr kp, u.oneCell' = true := by
  intro u hu
  simp [fnCells] at hu
  rcases hu with rfl | rfl | rfl | rfl | rfl <;> rfl
theorem add_push {Bp base m n c nl lc : Nat} {rs : List Raw} {rest : List (List UInt8)} {A lo : Option Addr} {W W2 w8 : World} {v' : Value} {p kp : Int} {fr : Bool} {o1 o2 : Obj} (hk0 : AddK Bp base W W2) (hB2 : Boxed W2 Bp 25 (.slice A n c)) (hP2 : PO W2 base m A n c rs) (hlt : Bp < base) (hbs : base ≤ W2.heap.size) (hbW : base ≤ W.heap.size)
    (hown : w8.ownsRow base 36 5 v' (n + 1) (rawc rs ++ fnCells p lo nl lc fr kp)) (hg : ((W2.alloc o1).alloc o2).grownBy w8 (Value.slice A n c).ownBlock) (hlen : ∀ x ∈ rest, x.length ≤ 4294967296) :
    ∃ A8 c8, v' = .slice A8 (n + 1) c8 ∧ w8.cell? ⟨Bp, 0, none⟩ = some (.slice A n c) ∧ w8.frozen? ⟨Bp, 0, none⟩ = false ∧ Hid (AddK Bp base W (w8.setCell ⟨Bp, 0, none⟩ v') ∧ (∀ ok, FnCase rest W.heap.size p lo nl lc fr kp W2 ok → AddCase Bp base m (funcW :: rest) rs (w8.setCell ⟨Bp, 0, none⟩ v') ok)) := by
  obtain ⟨A8, c8, rfl⟩ := own_slice hown
  have hal : Below W2.heap.size W2 ((W2.alloc o1).alloc o2) := ((Below.refl _ W2).alloc (Nat.le_refl _) _).alloc (by simp) _
  have hPa : PO ((W2.alloc o1).alloc o2) base m A n c rs := hP2.below hal
  have hka : AddK Bp base W2 ((W2.alloc o1).alloc o2) := addK_below hal hbs (by omega)
  have hk8 : AddK Bp base ((W2.alloc o1).alloc o2) w8 := AddK.grown hPa.row hg (by simp; omega) (by omega)
  have hB8 : Boxed w8 Bp 25 (.slice A n c) := by
    have h1 : Boxed ((W2.alloc o1).alloc o2) Bp 25 (.slice A n c) := boxed_on hB2 hal
    exact h1.kept hg fun e => by have := own_lt hPa.row e.symm; omega
  have hk9 : AddK Bp base w8 (w8.setCell ⟨Bp, 0, none⟩ (.slice A8 (n + 1) c8)) := AddK.set w8 _ _ (.inl rfl) (by omega)
  refine ⟨A8, c8, rfl, hB8.cell, hB8.frozen, ((hk0.trans hka).trans hk8).trans hk9, fun ok hc => ?_⟩
  rcases hc with ⟨rfl, hn⟩ | ⟨rfl, l, hf, hl, hlo⟩
  · exact .inl ⟨rfl, by rw [addL, if_neg (by decide), if_pos rfl, hn]; rfl⟩
  · subst hl
    have hof : OwnF ((W2.alloc o1).alloc o2) base ⟨⟨p, l, fr, kp, []⟩, lo, lc, none, 0⟩ :=
      ⟨own_base (own_kept hlo fun i hi => hal.block i (own_lt hlo hi).2) hbW, own_none _ _ _ _⟩
    obtain ⟨A9, c9, he, hP9⟩ := hPa.push hof (fnL_wf hf hlen) ⟨rfl, rfl, rfl⟩ hown hg
    injection he with he1 _ he2
    subst he1 he2
    refine .inr ⟨rfl, A8, n + 1, c8, _, ?_, hB8.set _, hP9.kept fun i hi _ => Below.heap_setCell w8 ⟨Bp, 0, none⟩ _ i (by simp; omega)⟩
    rw [addL, if_neg (by decide), if_pos rfl, hf, fns_append]
    rfl
theorem grown_of_drew {a b : World} {row : Option Nat} (h : a.drew.grownBy b row) : a.grownBy b row := ⟨h.os, h.tape, h.output, h.size, h.block⟩

section
variable (Bp base m : Nat) (ws : List (List UInt8)) (rs : List Raw) (A Aw : Option Addr) (n c cw : Nat) (W : World)

set_option maxHeartbeats 2000000 in
theorem add_fn (w0 : List UInt8) (rest : List (List UInt8)) (hw0 : w0 = funcW) (hBp : Boxed W Bp 25 (.slice A n c)) (hP : PO W base m A n c rs) (hm : m ≤ 4294967296) (hlt : Bp < base) (hbs : base ≤ W.heap.size)
    (hR : Reads W W.heap.size 1 Aw (rest.length + 1) (strs (w0 :: rest))) (hcw : rest.length + 1 ≤ cw) (hlen : ∀ x ∈ rest, x.length ≤ 4294967296) (hE : Env W.heap.size W) :
    Calls Tryd.prog 9 #[.pointer (some ⟨Bp, 0, none⟩), .slice Aw (rest.length + 1) cw] W (AddPost Bp base m (w0 :: rest) rs W) := by
  obtain ⟨b, off, rfl, hb, hc⟩ := words_at hR (by omega)
  have hc0 := hc 0 w0 rfl
  simp only [Nat.add_zero] at hc0
  obtain ⟨X, HX⟩ : ∃ X, Hid (X = str w0) := ⟨_, rfl⟩
  have hq : (X.toList == [102, 117, 110, 99]) = true := by rw [HX.out, str_toList, hw0]; rfl
  have HH : Hid (∀ W, Calls Tryd.prog 16 #[.string X, .string ⟨#[35]⟩] W fun e w' => e = .returned (.bool false) ∧ W = w') := Lib.hid fun W => by
    have h := Tryd.strings_HasPrefix X ⟨#[35]⟩ W
    rw [HX.out, str_list] at h
    rw [HX.out]
    refine h.mono fun e w' hh => ⟨?_, hh.2.symm⟩
    rw [hh.1, hash_prefix, hw0]; rfl
  rw [← HX.out] at hc0
  obtain ⟨k, hk⟩ : ∃ k, rest.length = k := ⟨_, rfl⟩
  have cp := hBp.cell
  rw [hk] at hcw ⊢
  have HE := Lib.hid hE
  have HP := Lib.hid hP
  have HB := Lib.hid hBp
  have HLn := Lib.hid hlen
  have HK := Lib.hid hk
  have HRs : Hid (∃ (Ar : Option Addr) (cr : Nat), Ar = (if cw = 1 then some ⟨b, off, none⟩ else some ⟨b, off + 1, none⟩) ∧ Reads W W.heap.size 1 Ar k (strs rest)) := by
    refine ⟨_, 0, rfl, by rw [length_strs, hk]; omega, fun h0 => ?_⟩
    rw [if_neg (by omega)]
    refine ⟨_, rfl, hb, fun j u hu => ?_⟩
    have ea : (⟨b, off + 1, none⟩ : Addr).add j = ⟨b, off + (j + 1), none⟩ := by simp only [Addr.add]; split <;> simp <;> omega
    rw [ea]
    unfold strs at hu
    rw [List.getElem?_map] at hu
    cases hj : rest[j]? with
    | none => rw [hj] at hu; cases hu
    | some y => rw [hj] at hu; injection hu with hu; subst hu; exact hc (j + 1) y (by simpa using hj)
  clear hc hR hE hP hBp hlen hk
  by_cases hcap : cw = 1
  · subst hcap
    obtain rfl : k = 0 := by omega
    obtain ⟨Ar, _, rfl, hRr⟩ := HRs.out
    rw [if_pos rfl] at hRr
    have HRR := Lib.hid hRr
    clear hRr HRs
    go_enter Tryd.func9, Tryd.ntmps9
    go_wp2_with (first
      | (go_at_call 16; refine (HH.out _).mono ?_; rintro e w2 ⟨rfl, rfl⟩)
      | (go_at_call 17; refine (funcOf_any rest W.heap.size _ _ _ W HRR.out (Nat.le_refl _) HK.out HLn.out HE.out).mono ?_; rintro e W2 ⟨p, lo, nl, lc, fr, kp, ok, rfl, hb2, hcase⟩; refine Hid.out ?_))
    have cp2 : W2.cell? ⟨Bp, 0, none⟩ = some (.slice A n c) := (boxed_on HB.out hb2).cell
    have fp2 : W2.frozen? ⟨Bp, 0, none⟩ = false := (boxed_on HB.out hb2).frozen
    have HP2 := Lib.hid (HP.out.below hb2)
    have hz2 := hb2.size
    have hBpl : Bp < W2.heap.size := by omega
    have HB2 := Lib.hid hb2
    have HC := Lib.hid hcase
    have HOA := Lib.hid (own_al (own_al HP2.out.row (.cells #[.int .i64 p, .slice lo nl lc, .bool fr, .int .i64 kp, .slice none 0 0] 36)) (.cells #[.int .i64 p, .slice lo nl lc, .bool fr, .int .i64 kp, .slice none 0 0] 36))
    have HRd := Lib.hid (reads_two W2 36 36 #[.int .i64 p, .slice lo nl lc, .bool fr, .int .i64 kp, .slice none 0 0] (fnCells p lo nl lc fr kp) 5 rfl)
    have hlim : n ≤ 4294967296 := by have := HP2.out.lim.1; omega
    clear hb2 hcase cp
    refine Lib.hid ?_
    go_wp2
    go_region_law (refine step_fn rfl _ _ rfl base (.slice A n c) n (rawc rs) rfl HOA.out (W2.heap.size + 2) (some ⟨W2.heap.size + 1, 0, none⟩) 1 1 (fnCells p lo nl lc fr kp) rfl HRd.out (fnCells_one _ _ _ _ _ _) (by omega) (by simp; omega) ?_; intro v' w8 hown hgr _; obtain ⟨A8, c8, rfl, cp8, fp8, HF8⟩ := add_push (rest := rest) (addK_below HB2.out hbs (by omega)) (boxed_on HB.out HB2.out) HP2.out hlt (by omega) hbs hown (grown_of_drew hgr) HLn.out; clear hown hgr)
    all_goals
      go_wp2
      go_ret
      exact ⟨ok, rfl, HF8.out.1, by rw [hw0]; exact HF8.out.2 _ HC.out⟩
  · obtain ⟨Ar, _, rfl, hRr⟩ := HRs.out
    rw [if_neg hcap] at hRr
    have HRR := Lib.hid hRr
    clear hRr HRs
    go_enter Tryd.func9, Tryd.ntmps9
    go_wp2_with (first
      | (go_at_call 16; refine (HH.out _).mono ?_; rintro e w2 ⟨rfl, rfl⟩)
      | (go_at_call 17; refine (funcOf_any rest W.heap.size _ _ _ W HRR.out (Nat.le_refl _) HK.out HLn.out HE.out).mono ?_; rintro e W2 ⟨p, lo, nl, lc, fr, kp, ok, rfl, hb2, hcase⟩; refine Hid.out ?_))
    have cp2 : W2.cell? ⟨Bp, 0, none⟩ = some (.slice A n c) := (boxed_on HB.out hb2).cell
    have fp2 : W2.frozen? ⟨Bp, 0, none⟩ = false := (boxed_on HB.out hb2).frozen
    have HP2 := Lib.hid (HP.out.below hb2)
    have hz2 := hb2.size
    have hBpl : Bp < W2.heap.size := by omega
    have HB2 := Lib.hid hb2
    have HC := Lib.hid hcase
    have HOA := Lib.hid (own_al (own_al HP2.out.row (.cells #[.int .i64 p, .slice lo nl lc, .bool fr, .int .i64 kp, .slice none 0 0] 36)) (.cells #[.int .i64 p, .slice lo nl lc, .bool fr, .int .i64 kp, .slice none 0 0] 36))
    have HRd := Lib.hid (reads_two W2 36 36 #[.int .i64 p, .slice lo nl lc, .bool fr, .int .i64 kp, .slice none 0 0] (fnCells p lo nl lc fr kp) 5 rfl)
    have hlim : n ≤ 4294967296 := by have := HP2.out.lim.1; omega
    clear hb2 hcase cp
    refine Lib.hid ?_
    go_wp2
    go_region_law (refine step_fn rfl _ _ rfl base (.slice A n c) n (rawc rs) rfl HOA.out (W2.heap.size + 2) (some ⟨W2.heap.size + 1, 0, none⟩) 1 1 (fnCells p lo nl lc fr kp) rfl HRd.out (fnCells_one _ _ _ _ _ _) (by omega) (by simp; omega) ?_; intro v' w8 hown hgr _; obtain ⟨A8, c8, rfl, cp8, fp8, HF8⟩ := add_push (rest := rest) (addK_below HB2.out hbs (by omega)) (boxed_on HB.out HB2.out) HP2.out hlt (by omega) hbs hown (grown_of_drew hgr) HLn.out; clear hown hgr)
    all_goals
      go_wp2
      go_ret
      exact ⟨ok, rfl, HF8.out.1, by rw [hw0]; exact HF8.out.2 _ HC.out⟩
end
end Go.Proofs.YtbpobbadmbafaaaDoor
