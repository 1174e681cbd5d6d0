/-
  Package text: addLine at an instruction, and its other ways.
-/
import Derived.Test.YtbpobbadmbafaaaDoorTAdd
import Derived.Deep.DeepCutAuto
import Derived.Deep.RegionHeld3
namespace Go.Proofs.YtbpobbadmbafaaaDoor
set_option linter.unusedVariables false
open Go.ChangeShapes Go.WideShapes Go.ChangeAt Go.RowKit

theorem grownBy_setCell_any (W : World) (p : Addr) (v : Value) : W.grownBy (W.setCell p v) (some p.block) :=
  ⟨rfl, rfl, rfl, by simp, fun k _ hk => Below.heap_setCell W p v k (fun e => hk (by simp [e]))⟩
theorem bl_drewN (w : World) (B n : Nat) : Below B w (w.drewN n) := ⟨rfl, rfl, rfl, Nat.le_refl _, fun _ _ => rfl⟩
theorem below_drew (w : World) : Below w.heap.size w w.drew := (Below.refl _ _).drew
/-- the row of the words behind the first -/
theorem rest_reads {W : World} {B b off k cw : Nat} {w0 : List UInt8} {rest : List (List UInt8)} (hb : b < B) (hk : rest.length = k) (hcw : k + 1 ≤ cw) (hc : ∀ (k : Nat) (x : List UInt8), (w0 :: rest)[k]? = some x → W.cell? ⟨b, off + k, none⟩ = some (.string (str x))) :
    ∃ (Ar : Option Addr), Ar = (if cw = 1 then some ⟨b, off, none⟩ else some ⟨b, off + 1, none⟩) ∧ Reads W B 1 Ar k (strs rest) := by
  refine ⟨_, rfl, by rw [length_strs, hk]; omega, fun h0 => ?_⟩
  rw [if_neg (by omega)]
  refine ⟨_, rfl, hb, fun j u hu => ?_⟩
  have ea : (⟨b, off + 1, none⟩ : Addr).add j = ⟨b, off + (j + 1), none⟩ := by simp only [Addr.add]; split <;> simp <;> omega
  rw [ea]
  unfold strs at hu
  rw [List.getElem?_map] at hu
  cases hj : rest[j]? with
  | none => rw [hj] at hu; cases hu
  | some y => rw [hj] at hu; injection hu with hu; subst hu; exact hc (j + 1) y (by simpa using hj)
/-- the last function's code, in its row -/
theorem last_cell {W : World} {base m n c : Nat} {A : Option Addr} {a : List Raw} {r : Raw} (h : PO W base m A n c (a ++ [r])) : ∃ g, A = some ⟨g, 0, none⟩ ∧ base ≤ g ∧ g < W.heap.size ∧ n = a.length + 1 ∧ n ≤ c ∧ W.cell? ⟨g, a.length * 5 + 4, none⟩ = some (.slice r.co r.fn.code.length r.cc) ∧ W.frozen? ⟨g, a.length * 5 + 4, none⟩ = false := by
  have hn : n = a.length + 1 := by have := h.len; simpa using this.symm
  rcases h.row.2 with ⟨_, h0⟩ | ⟨g, cap, cur, he, hb, hh, hnc, _⟩
  · omega
  · injection he with he1 _ he2
    subst he1 he2
    have hlt := (Array.getElem?_eq_some_iff.1 hh).1
    have hc := (Reads.of_own h.row).2 (by omega)
    obtain ⟨ad, hA, _, hcell⟩ := hc
    injection hA with hA
    subst hA
    have h5 := (rawc_at (l := a ++ [r]) (k := a.length) (x := r) (by simp)).2.2.2.2
    have := hcell _ _ h5
    have ea : (⟨g, 0, none⟩ : Addr).add (a.length * 5 + 4) = ⟨g, a.length * 5 + 4, none⟩ := by simp [Addr.add]
    rw [ea] at this
    exact ⟨g, rfl, hb, hlt, hn, hnc, this, h.row.frozenAt _⟩

def InsCase (w0 : List UInt8) (rest : List (List UInt8)) (o a m : Int) (ok : Bool) : Prop := (ok = false ∧ insL w0 rest = none) ∨ (ok = true ∧ insL w0 rest = some ⟨o, a, m⟩)

theorem add_grow {Bp base m n c j g : Nat} {a : List Raw} {r : Raw} {w0 : List UInt8} {rest : List (List UInt8)} {A : Option Addr} {W W3 w8 : World} {v' : Value} {o ia im : Int} {o1 : Obj} (hk0 : AddK Bp base W W3) (hB3 : Boxed W3 Bp 25 (.slice A n c)) (hP3 : PO W3 base m A n c (a ++ [r])) (hA : A = some ⟨g, 0, none⟩) (hj : a.length = j) (hm : m ≤ 4294967296) (hlt : Bp < base) (hbs : base ≤ W3.heap.size)
    (hown : w8.ownsRow base 40 3 v' (r.fn.code.length + 1) (insc r.fn.code ++ insOne ⟨o, ia, im⟩)) (hg : (W3.alloc o1).grownBy w8 (codeV r).ownBlock) (hor : v'.ownBlock = (codeV r).ownBlock ∨ v'.ownBlock = some (W3.alloc o1).heap.size) :
    ∃ co cc, v' = .slice co (r.fn.code.length + 1) cc ∧ w8.cell? ⟨g, j * 5 + 4, none⟩ = some (.slice r.co r.fn.code.length r.cc) ∧ w8.frozen? ⟨g, j * 5 + 4, none⟩ = false ∧ Hid (AddK Bp base W (w8.setCell ⟨g, j * 5 + 4, none⟩ v') ∧
      (∀ ok, InsCase w0 rest o ia im ok → w0 ≠ funcW → w0.head? ≠ some 35 → AddCase Bp base m (w0 :: rest) (a ++ [r]) (w8.setCell ⟨g, j * 5 + 4, none⟩ v') ok)) := by
  have hal : Below W3.heap.size W3 (W3.alloc o1) := (Below.refl _ W3).alloc (Nat.le_refl _) _
  have hPa : PO (W3.alloc o1) base m A n c (a ++ [r]) := hP3.below hal
  have hrr : r ∈ a ++ [r] := by simp
  have hka : AddK Bp base W3 (W3.alloc o1) := addK_below hal hbs (by omega)
  have hk8 : AddK Bp base (W3.alloc o1) w8 := AddK.grown (hPa.each r hrr).code hg (by simp; omega) (by omega)
  obtain ⟨g', hg', hgb, hgl, hn, hnc, hcell, hfro⟩ := last_cell hPa
  obtain rfl : g = g' := by rw [hA] at hg'; injection hg' with hg'; injection hg'
  have hgne : some g ≠ (codeV r).ownBlock := fun e => by
    rcases hPa.row.2 with ⟨he, _⟩ | ⟨g2, cap, cur, he, _, hh, _⟩
    · rw [hA] at he; cases he
    · obtain rfl : g = g2 := by rw [hA] at he; injection he with he; injection he with he; injection he
      exact own_blk_ne (hPa.each r hrr).code (g := g) (t := 36) (cs := cur) hh (by decide) e.symm
  have hbg : w8.heap[g]? = (W3.alloc o1).heap[g]? := hg.block g hgl hgne
  have hB8 : Boxed w8 Bp 25 (.slice A n c) := by
    have h1 : Boxed (W3.alloc o1) Bp 25 (.slice A n c) := boxed_on hB3 hal
    exact h1.kept hg fun e => by have := own_lt (hPa.each r hrr).code e.symm; omega
  have hk9 : AddK Bp base w8 (w8.setCell ⟨g, j * 5 + 4, none⟩ v') := AddK.set w8 _ _ (.inr hgb) (by omega)
  rw [hj] at hcell hfro
  obtain ⟨co, cc, hv⟩ := own_slice hown
  refine ⟨co, cc, hv, (World.cell?_of_block hbg).trans hcell, ?_, ((hk0.trans hka).trans hk8).trans hk9, fun ok hc h1 h2 => ?_⟩
  · have : w8.frozen? ⟨g, j * 5 + 4, none⟩ = (W3.alloc o1).frozen? ⟨g, j * 5 + 4, none⟩ := by unfold World.frozen?; rw [hbg]
    rw [this]; exact hfro
  · have hne : fns (a ++ [r]) ≠ [] := by rw [fns_append]; simp [fns]
    have had : addL (fns (a ++ [r])) (w0 :: rest) = (insL w0 rest).map (fun i => addI (fns (a ++ [r])) i) := by rw [addL, if_neg h2, if_neg h1, if_neg hne]
    rcases hc with ⟨rfl, hn0⟩ | ⟨rfl, hs⟩
    · exact .inl ⟨rfl, by rw [had, hn0]; rfl⟩
    · obtain ⟨co', cc', he, hP9, _⟩ := hPa.grow (insL_wf hs) hm hA hown hg hor
      rw [hj] at hP9
      refine .inr ⟨rfl, A, n, c, _, ?_, ?_, hP9⟩
      · rw [had, hs, Option.map_some, fns_last]
      · exact hB8.kept (grownBy_setCell_any w8 ⟨g, j * 5 + 4, none⟩ v') (fun e => by have h : Bp = g := by { injection e }; omega)

section
variable (Bp base m : Nat) (rs : List Raw) (A Aw : Option Addr) (n c cw : Nat) (W : World)

set_option maxRecDepth 100000 in
set_option maxHeartbeats 4000000 in
theorem add_ins (w0 : List UInt8) (rest : List (List UInt8)) (a : List Raw) (r : Raw) (hw0 : w0 ≠ funcW) (hw1 : w0.head? ≠ some 35) (hrs : rs = a ++ [r]) (hBp : Boxed W Bp 25 (.slice A n c)) (hP : PO W base m A n c rs) (hm : m ≤ 4294967296) (hlt : Bp < base) (hbs : base ≤ W.heap.size)
    (hR : Reads W W.heap.size 1 Aw (rest.length + 1) (strs (w0 :: rest))) (hcw : rest.length + 1 ≤ cw) (hlen : ∀ x ∈ rest, x.length ≤ 4294967296) (hE : Env W.heap.size W) :
    Calls Tryd.prog 9 #[.pointer (some ⟨Bp, 0, none⟩), .slice Aw (rest.length + 1) cw] W (AddPost Bp base m (w0 :: rest) rs W) := by
  obtain ⟨b, off, rfl, hb, hc⟩ := words_at hR (by omega)
  have hc0 := hc 0 w0 rfl
  simp only [Nat.add_zero] at hc0
  obtain ⟨X, HX⟩ : ∃ X, Hid (X = str w0) := ⟨_, rfl⟩
  have hq : (X.toList == [102, 117, 110, 99]) = false := by rw [HX.out, str_toList]; simpa [funcW] using hw0
  have HH : Hid (∀ W, Calls Tryd.prog 16 #[.string X, .string ⟨#[35]⟩] W fun e w' => e = .returned (.bool false) ∧ W = w') := Lib.hid fun W => by
    have h := Tryd.strings_HasPrefix X ⟨#[35]⟩ W
    rw [HX.out, str_list] at h
    rw [HX.out]
    refine h.mono fun e w' hh => ⟨?_, hh.2.symm⟩
    rw [hh.1, hash_prefix, decide_eq_false hw1]
  rw [← HX.out] at hc0
  obtain ⟨k, hk⟩ : ∃ k, rest.length = k := ⟨_, rfl⟩
  rw [hk] at hcw ⊢
  subst hrs
  obtain ⟨g, rfl, hgb, hgl, hn, hnc, hlc, hlf⟩ := last_cell hP
  obtain ⟨j, hj⟩ : ∃ j, a.length = j := ⟨_, rfl⟩
  rw [hj] at hn hlc hlf
  subst hn
  have HE := Lib.hid hE
  have HW0 := Lib.hid hw0
  have HW1 := Lib.hid hw1
  have HP := Lib.hid hP
  have HB := Lib.hid hBp
  have HLn := Lib.hid hlen
  have HK := Lib.hid hk
  have HJ := Lib.hid hj
  have HRs := Lib.hid (rest_reads hb hk hcw hc)
  have cpd : W.drew.cell? ⟨Bp, 0, none⟩ = some (.slice (some ⟨g, 0, none⟩) (j + 1) c) := hBp.cell
  have cp : W.cell? ⟨Bp, 0, none⟩ = some (.slice (some ⟨g, 0, none⟩) (j + 1) c) := hBp.cell
  clear hc hR hE hP hBp hlen hk hj hw0 hw1
  by_cases hcap : cw = 1
  · subst hcap
    obtain rfl : k = 0 := by omega
    obtain ⟨Ar, rfl, hRr⟩ := HRs.out
    rw [if_pos rfl] at hRr
    have HRR := Lib.hid hRr
    clear hRr HRs
    go_enter Tryd.func9, Tryd.ntmps9
    go_wp2_with (go_at_call 16; refine (HH.out _).mono ?_; rintro e w2 ⟨rfl, rfl⟩)
    have HIns : Hid (∀ W1 : World, Below W.heap.size W W1 → Calls Tryd.prog 18 #[.string X, .slice (some ⟨b, off, none⟩) 0 0] W1 (InsPost w0 rest W1)) := Lib.hid fun W1 h1 => by
      rw [HX.out]
      exact instrOf_any w0 rest W.heap.size _ _ _ W1 (HRR.out.below h1) h1.size HK.out HLn.out (HE.out.at_ h1 h1.size)
    go_upto_region 9 with fail
    go_cut [7, 8] (fun s7 s8 wx => ∃ (q : Nat) (ok : Bool) (o ia im : Int), s7 = .pointer (some ⟨q, 0, none⟩) ∧ s8 = .bool ok ∧ Hid (Blk wx q 40 #[.int .u8 o, .int .i64 ia, .int .u64 im]) ∧ Hid (Below W.heap.size W wx) ∧ Hid (InsCase w0 rest o ia im ok))
    case first =>
      go_region_law (go_simp; go_at_call 18; refine (HIns.out _ (by first | exact (Below.refl _ _).drew | exact ((Below.refl _ _).alloc (Nat.le_refl _) _).drew)).mono ?_; rintro e W2 ⟨o, ia, im, ok, rfl, hb2, hcase⟩; have HC2 : Hid (InsCase w0 rest o ia im ok) := hcase; clear hcase; first
        | (have hx2 : Blk W2 W.heap.size 40 #[.int .u8 0, .int .i64 0, .int .u64 0] := (Blk.new W _ _).drew.below hb2 (by simp); have hbw : Below W.heap.size W W2 := ((Below.refl _ _).alloc (Nat.le_refl _) _).drew.trans (hb2.mono (by simp)); have x0 := hx2.cell 0; have x1 := hx2.cell 1; have x2 := hx2.cell 2; have y0 := hx2.frozen 0; have y1 := hx2.frozen 1; have y2 := hx2.frozen 2; have HX2 := Lib.hid hx2; have HBW := Lib.hid hbw; clear hx2 hbw hb2; go_simp)
        | (have hbw : Below W.heap.size W W2 := (Below.refl _ _).drew.trans hb2; have HBW := Lib.hid hbw; have hzw := hbw.size; clear hbw hb2; go_simp))
      all_goals
        go_wp2
        go_meet
      all_goals first
        | exact ⟨W2.heap.size, ok, o, ia, im, rfl, rfl, Lib.hid (Blk.new W2 _ _), Lib.hid (HBW.out.alloc hzw _), HC2⟩
        | exact ⟨W.heap.size, ok, o, ia, im, rfl, rfl, Lib.hid (by have h := ((HX2.out.set_ 0 (.int .u8 o)).set_ 1 (.int .i64 ia)).set_ 2 (.int .u64 im); simpa using h), Lib.hid (((HBW.out.setCell (p := ⟨W.heap.size, 0, none⟩) (Nat.le_refl _) _).setCell (p := ⟨W.heap.size, 1, none⟩) (Nat.le_refl _) _).setCell (p := ⟨W.heap.size, 2, none⟩) (Nat.le_refl _) _), HC2⟩
    case rest =>
      obtain ⟨q, ok, o, ia, im, rfl, rfl, HI, HBc, HCc⟩ := hcut
      have hpc := HP.out.below HBc.out
      obtain ⟨g', hg', hx1, hglc, hx2, hx3, lcc, lfc⟩ := last_cell hpc
      clear hx1 hx2 hx3
      obtain rfl : g = g' := by injection hg' with hg'; injection hg'
      rw [HJ.out] at lcc lfc
      have cpc : wc.cell? ⟨Bp, 0, none⟩ = some (.slice (some ⟨g, 0, none⟩) (j + 1) c) := (boxed_on HB.out HBc.out).cell
      have i0 := HI.out.cell 0
      have i1 := HI.out.cell 1
      have i2 := HI.out.cell 2
      have HPc := Lib.hid hpc
      have hzc := HBc.out.size
      have hj1 : ((j : Int) + 1) - 1 = (j : Int) := by omega
      have hjl : j ≤ 4294967296 := by have := HPc.out.lim.1; omega
      have hj0 : (0 : Int) ≤ (j : Int) := by omega
      clear hpc cp cpd hlc hlf hg' hc0 hgl
      go_wp2
      have hjw : IntKind.i64.wrap (j : Int) = (j : Int) := IntWalk.i64_in _ (by omega)
      go_quiet (fail)
      obtain ⟨W3, hW3⟩ : ∃ W3, W3 = wc.drewN nq := ⟨_, rfl⟩
      have hP3 : PO W3 base m (some ⟨g, 0, none⟩) (j + 1) c (a ++ [r]) := by rw [hW3]; exact HPc.out.kept (fun _ _ _ => rfl)
      have hB3 : Boxed W3 Bp 25 (.slice (some ⟨g, 0, none⟩) (j + 1) c) := by rw [hW3]; have h := boxed_on HB.out HBc.out; exact h
      have l3 : W3.cell? ⟨g, j * 5 + 4, none⟩ = some (.slice r.co r.fn.code.length r.cc) := by rw [hW3]; exact lcc
      have lf3 : W3.frozen? ⟨g, j * 5 + 4, none⟩ = false := by rw [hW3]; exact lfc
      have z0 : W3.cell? ⟨q, 0, none⟩ = some (.int .u8 o) := by rw [hW3]; exact i0
      have z1 : W3.cell? ⟨q, 1, none⟩ = some (.int .i64 ia) := by rw [hW3]; exact i1
      have z2 : W3.cell? ⟨q, 2, none⟩ = some (.int .u64 im) := by rw [hW3]; exact i2
      have hz3 : base ≤ W3.heap.size := by rw [hW3]; exact Nat.le_trans hbs hzc
      have hk3 : AddK Bp base W W3 := by rw [hW3]; exact (addK_below HBc.out hbs (by omega)).trans ⟨⟨Nat.le_refl _, fun _ _ h _ => h⟩, fun _ _ _ => rfl, bl_drewN wc Bp nq⟩
      have hcl : r.fn.code.length ≤ 4294967296 := by have := hP3.lim.2 r (by simp); omega
      have hgl3 := (last_cell hP3).choose_spec
      have hgW : g < W3.heap.size := by
        obtain ⟨g', hg', _, hl', _⟩ := last_cell hP3
        injection hg' with hg'
        injection hg' with hg'
        omega
      have HP3 := Lib.hid hP3
      have HB3 := Lib.hid hB3
      have HK3 := Lib.hid hk3
      have HOA := Lib.hid (own_al (hP3.each r (by simp)).code (.cells #[.int .u8 o, .int .i64 ia, .int .u64 im] 40))
      have HRd := Lib.hid (one_reads W3 40 (insOne ⟨o, ia, im⟩) 3 rfl)
      rw [← hW3]
      clear hW3 hP3 hB3 hk3 lcc lfc i0 i1 i2 cpc hglc hgl3 hjw hj1
      go_wp2
      go_region_law (refine step_ins rfl _ _ rfl base (.slice r.co r.fn.code.length r.cc) r.fn.code.length (insc r.fn.code) rfl HOA.out (W3.heap.size + 1) (some ⟨W3.heap.size, 0, none⟩) 1 1 (insOne ⟨o, ia, im⟩) rfl HRd.out (insOne_one _) (by omega) (by simp; omega) ?_; intro v' w8 hown hgr hor; obtain ⟨co, cc, rfl, l8, lf8, HF8⟩ := add_grow (w0 := w0) (rest := rest) HK3.out HB3.out HP3.out rfl HJ.out hm hlt hz3 hown (grown_of_drew hgr) hor; clear hown hgr hor)
      all_goals
        go_wp2
        go_ret
        exact ⟨ok, rfl, HF8.out.1, HF8.out.2 _ HCc.out HW0.out HW1.out⟩
  · obtain ⟨Ar, rfl, hRr⟩ := HRs.out
    rw [if_neg hcap] at hRr
    have HRR := Lib.hid hRr
    clear hRr HRs
    go_enter Tryd.func9, Tryd.ntmps9
    go_wp2_with (go_at_call 16; refine (HH.out _).mono ?_; rintro e w2 ⟨rfl, rfl⟩)
    have h1k : (1 : Int) ≤ (k : Int) + 1 := by omega
    have HIns : Hid (∀ W1 : World, Below W.heap.size W W1 → Calls Tryd.prog 18 #[.string X, .slice (some ⟨b, off + 1, none⟩) k (cw - 1)] W1 (InsPost w0 rest W1)) := Lib.hid fun W1 h1 => by
      rw [HX.out]
      exact instrOf_any w0 rest W.heap.size _ _ _ W1 (HRR.out.below h1) h1.size HK.out HLn.out (HE.out.at_ h1 h1.size)
    go_upto_region 9 with fail
    go_cut [7, 8] (fun s7 s8 wx => ∃ (q : Nat) (ok : Bool) (o ia im : Int), s7 = .pointer (some ⟨q, 0, none⟩) ∧ s8 = .bool ok ∧ Hid (Blk wx q 40 #[.int .u8 o, .int .i64 ia, .int .u64 im]) ∧ Hid (Below W.heap.size W wx) ∧ Hid (InsCase w0 rest o ia im ok))
    case first =>
      go_region_law (go_simp; go_at_call 18; refine (HIns.out _ (by first | exact (Below.refl _ _).drew | exact ((Below.refl _ _).alloc (Nat.le_refl _) _).drew)).mono ?_; rintro e W2 ⟨o, ia, im, ok, rfl, hb2, hcase⟩; have HC2 : Hid (InsCase w0 rest o ia im ok) := hcase; clear hcase; first
        | (have hx2 : Blk W2 W.heap.size 40 #[.int .u8 0, .int .i64 0, .int .u64 0] := (Blk.new W _ _).drew.below hb2 (by simp); have hbw : Below W.heap.size W W2 := ((Below.refl _ _).alloc (Nat.le_refl _) _).drew.trans (hb2.mono (by simp)); have x0 := hx2.cell 0; have x1 := hx2.cell 1; have x2 := hx2.cell 2; have y0 := hx2.frozen 0; have y1 := hx2.frozen 1; have y2 := hx2.frozen 2; have HX2 := Lib.hid hx2; have HBW := Lib.hid hbw; clear hx2 hbw hb2; go_simp)
        | (have hbw : Below W.heap.size W W2 := (Below.refl _ _).drew.trans hb2; have HBW := Lib.hid hbw; have hzw := hbw.size; clear hbw hb2; go_simp))
      all_goals
        go_wp2
        go_meet
      all_goals first
        | exact ⟨W2.heap.size, ok, o, ia, im, rfl, rfl, Lib.hid (Blk.new W2 _ _), Lib.hid (HBW.out.alloc hzw _), HC2⟩
        | exact ⟨W.heap.size, ok, o, ia, im, rfl, rfl, Lib.hid (by have h := ((HX2.out.set_ 0 (.int .u8 o)).set_ 1 (.int .i64 ia)).set_ 2 (.int .u64 im); simpa using h), Lib.hid (((HBW.out.setCell (p := ⟨W.heap.size, 0, none⟩) (Nat.le_refl _) _).setCell (p := ⟨W.heap.size, 1, none⟩) (Nat.le_refl _) _).setCell (p := ⟨W.heap.size, 2, none⟩) (Nat.le_refl _) _), HC2⟩
    case rest =>
      obtain ⟨q, ok, o, ia, im, rfl, rfl, HI, HBc, HCc⟩ := hcut
      have hpc := HP.out.below HBc.out
      obtain ⟨g', hg', hx1, hglc, hx2, hx3, lcc, lfc⟩ := last_cell hpc
      clear hx1 hx2 hx3
      obtain rfl : g = g' := by injection hg' with hg'; injection hg'
      rw [HJ.out] at lcc lfc
      have cpc : wc.cell? ⟨Bp, 0, none⟩ = some (.slice (some ⟨g, 0, none⟩) (j + 1) c) := (boxed_on HB.out HBc.out).cell
      have i0 := HI.out.cell 0
      have i1 := HI.out.cell 1
      have i2 := HI.out.cell 2
      have HPc := Lib.hid hpc
      have hzc := HBc.out.size
      have hj1 : ((j : Int) + 1) - 1 = (j : Int) := by omega
      have hjl : j ≤ 4294967296 := by have := HPc.out.lim.1; omega
      have hj0 : (0 : Int) ≤ (j : Int) := by omega
      clear hpc cp cpd hlc hlf hg' hc0 hgl
      go_wp2
      have hjw : IntKind.i64.wrap (j : Int) = (j : Int) := IntWalk.i64_in _ (by omega)
      go_quiet (fail)
      obtain ⟨W3, hW3⟩ : ∃ W3, W3 = wc.drewN nq := ⟨_, rfl⟩
      have hP3 : PO W3 base m (some ⟨g, 0, none⟩) (j + 1) c (a ++ [r]) := by rw [hW3]; exact HPc.out.kept (fun _ _ _ => rfl)
      have hB3 : Boxed W3 Bp 25 (.slice (some ⟨g, 0, none⟩) (j + 1) c) := by rw [hW3]; have h := boxed_on HB.out HBc.out; exact h
      have l3 : W3.cell? ⟨g, j * 5 + 4, none⟩ = some (.slice r.co r.fn.code.length r.cc) := by rw [hW3]; exact lcc
      have lf3 : W3.frozen? ⟨g, j * 5 + 4, none⟩ = false := by rw [hW3]; exact lfc
      have z0 : W3.cell? ⟨q, 0, none⟩ = some (.int .u8 o) := by rw [hW3]; exact i0
      have z1 : W3.cell? ⟨q, 1, none⟩ = some (.int .i64 ia) := by rw [hW3]; exact i1
      have z2 : W3.cell? ⟨q, 2, none⟩ = some (.int .u64 im) := by rw [hW3]; exact i2
      have hz3 : base ≤ W3.heap.size := by rw [hW3]; exact Nat.le_trans hbs hzc
      have hk3 : AddK Bp base W W3 := by rw [hW3]; exact (addK_below HBc.out hbs (by omega)).trans ⟨⟨Nat.le_refl _, fun _ _ h _ => h⟩, fun _ _ _ => rfl, bl_drewN wc Bp nq⟩
      have hcl : r.fn.code.length ≤ 4294967296 := by have := hP3.lim.2 r (by simp); omega
      have hgl3 := (last_cell hP3).choose_spec
      have hgW : g < W3.heap.size := by
        obtain ⟨g', hg', _, hl', _⟩ := last_cell hP3
        injection hg' with hg'
        injection hg' with hg'
        omega
      have HP3 := Lib.hid hP3
      have HB3 := Lib.hid hB3
      have HK3 := Lib.hid hk3
      have HOA := Lib.hid (own_al (hP3.each r (by simp)).code (.cells #[.int .u8 o, .int .i64 ia, .int .u64 im] 40))
      have HRd := Lib.hid (one_reads W3 40 (insOne ⟨o, ia, im⟩) 3 rfl)
      rw [← hW3]
      clear hW3 hP3 hB3 hk3 lcc lfc i0 i1 i2 cpc hglc hgl3 hjw hj1
      go_wp2
      go_region_law (refine step_ins rfl _ _ rfl base (.slice r.co r.fn.code.length r.cc) r.fn.code.length (insc r.fn.code) rfl HOA.out (W3.heap.size + 1) (some ⟨W3.heap.size, 0, none⟩) 1 1 (insOne ⟨o, ia, im⟩) rfl HRd.out (insOne_one _) (by omega) (by simp; omega) ?_; intro v' w8 hown hgr hor; obtain ⟨co, cc, rfl, l8, lf8, HF8⟩ := add_grow (w0 := w0) (rest := rest) HK3.out HB3.out HP3.out rfl HJ.out hm hlt hz3 hown (grown_of_drew hgr) hor; clear hown hgr hor)
      all_goals
        go_wp2
        go_ret
        exact ⟨ok, rfl, HF8.out.1, HF8.out.2 _ HCc.out HW0.out HW1.out⟩

set_option maxHeartbeats 2000000 in
theorem add_skip (hBp : Boxed W Bp 25 (.slice A n c)) (hP : PO W base m A n c rs) :
    Calls Tryd.prog 9 #[.pointer (some ⟨Bp, 0, none⟩), .slice Aw 0 cw] W (AddPost Bp base m [] rs W) := by
  have HB := Lib.hid hBp
  have HP := Lib.hid hP
  clear hBp hP
  go_enter Tryd.func9, Tryd.ntmps9
  go_wp2
  go_ret
  exact ⟨true, rfl, AddK.refl _ _ _, .inr ⟨rfl, A, n, c, rs, rfl, HB.out, HP.out.more (by omega)⟩⟩

set_option maxHeartbeats 2000000 in
theorem add_hash (w0 : List UInt8) (rest : List (List UInt8)) (hw1 : w0.head? = some 35) (hBp : Boxed W Bp 25 (.slice A n c)) (hP : PO W base m A n c rs)
    (hR : Reads W W.heap.size 1 Aw (rest.length + 1) (strs (w0 :: rest))) :
    Calls Tryd.prog 9 #[.pointer (some ⟨Bp, 0, none⟩), .slice Aw (rest.length + 1) cw] W (AddPost Bp base m (w0 :: rest) rs W) := by
  obtain ⟨b, off, rfl, hb, hc⟩ := words_at hR (by omega)
  have hc0 := hc 0 w0 rfl
  simp only [Nat.add_zero] at hc0
  obtain ⟨X, HX⟩ : ∃ X, Hid (X = str w0) := ⟨_, rfl⟩
  have HH : Hid (∀ W, Calls Tryd.prog 16 #[.string X, .string ⟨#[35]⟩] W fun e w' => e = .returned (.bool true) ∧ W = w') := Lib.hid fun W => by
    have h := Tryd.strings_HasPrefix X ⟨#[35]⟩ W
    rw [HX.out, str_list] at h
    rw [HX.out]
    refine h.mono fun e w' hh => ⟨?_, hh.2.symm⟩
    rw [hh.1, hash_prefix, decide_eq_true hw1]
  rw [← HX.out] at hc0
  obtain ⟨k, hk⟩ : ∃ k, rest.length = k := ⟨_, rfl⟩
  rw [hk]
  have HB := Lib.hid hBp
  have HP := Lib.hid hP
  have HW := Lib.hid hw1
  clear hBp hP hc hR hk hw1
  go_enter Tryd.func9, Tryd.ntmps9
  go_wp2_with (go_at_call 16; refine (HH.out _).mono ?_; rintro e w2 ⟨rfl, rfl⟩)
  go_ret
  exact ⟨true, rfl, AddK.refl _ _ _, .inr ⟨rfl, A, n, c, rs, by rw [addL, if_pos HW.out], HB.out, HP.out.more (by omega)⟩⟩

set_option maxHeartbeats 2000000 in
theorem add_orphan (w0 : List UInt8) (rest : List (List UInt8)) (hw0 : w0 ≠ funcW) (hw1 : w0.head? ≠ some 35) (hBp : Boxed W Bp 25 (.slice A 0 c))
    (hR : Reads W W.heap.size 1 Aw (rest.length + 1) (strs (w0 :: rest))) :
    Calls Tryd.prog 9 #[.pointer (some ⟨Bp, 0, none⟩), .slice Aw (rest.length + 1) cw] W (AddPost Bp base m (w0 :: rest) [] W) := by
  obtain ⟨b, off, rfl, hb, hc⟩ := words_at hR (by omega)
  have hc0 := hc 0 w0 rfl
  simp only [Nat.add_zero] at hc0
  obtain ⟨X, HX⟩ : ∃ X, Hid (X = str w0) := ⟨_, rfl⟩
  have hq : (X.toList == [102, 117, 110, 99]) = false := by rw [HX.out, str_toList]; simpa [funcW] using hw0
  have HH : Hid (∀ W, Calls Tryd.prog 16 #[.string X, .string ⟨#[35]⟩] W fun e w' => e = .returned (.bool false) ∧ W = w') := Lib.hid fun W => by
    have h := Tryd.strings_HasPrefix X ⟨#[35]⟩ W
    rw [HX.out, str_list] at h
    rw [HX.out]
    refine h.mono fun e w' hh => ⟨?_, hh.2.symm⟩
    rw [hh.1, hash_prefix, decide_eq_false hw1]
  rw [← HX.out] at hc0
  obtain ⟨k, hk⟩ : ∃ k, rest.length = k := ⟨_, rfl⟩
  rw [hk]
  have cp := hBp.cell
  have HN : Hid (addL (fns []) (w0 :: rest) = none) := Lib.hid (by rw [addL, if_neg hw1, if_neg hw0, if_pos (show fns [] = [] from rfl)])
  clear hBp hc hR hk hw1 hw0
  go_enter Tryd.func9, Tryd.ntmps9
  go_wp2_with (go_at_call 16; refine (HH.out _).mono ?_; rintro e w2 ⟨rfl, rfl⟩)
  go_ret
  exact ⟨false, rfl, AddK.refl _ _ _, .inl ⟨rfl, HN.out⟩⟩

/-- addLine, whatever the line -/
theorem addLine_any (ws : List (List UInt8)) (k : Nat) (hk : ws.length = k) (hBp : Boxed W Bp 25 (.slice A n c)) (hP : PO W base m A n c rs) (hm : m ≤ 4294967296) (hlt : Bp < base) (hbs : base ≤ W.heap.size)
    (hR : Reads W W.heap.size 1 Aw k (strs ws)) (hcw : k ≤ cw) (hlen : ∀ x ∈ ws, x.length ≤ 4294967296) (hE : Env W.heap.size W) :
    Calls Tryd.prog 9 #[.pointer (some ⟨Bp, 0, none⟩), .slice Aw k cw] W (AddPost Bp base m ws rs W) := by
  subst hk
  cases ws with
  | nil => exact add_skip Bp base m rs A Aw n c cw W hBp hP
  | cons w0 rest =>
    rw [List.length_cons] at hR hcw ⊢
    have hl : ∀ x ∈ rest, x.length ≤ 4294967296 := fun x hx => hlen x (by simp [hx])
    by_cases h1 : w0.head? = some 35
    · exact add_hash Bp base m rs A Aw n c cw W w0 rest h1 hBp hP hR
    · by_cases h0 : w0 = funcW
      · exact add_fn Bp base m rs A Aw n c cw W w0 rest h0 hBp hP hm hlt hbs hR hcw hl hE
      · by_cases hr : rs = []
        · subst hr
          obtain rfl : n = 0 := by have := hP.len; simpa using this.symm
          exact add_orphan Bp base m A Aw c cw W w0 rest h0 h1 hBp hR
        · exact add_ins Bp base m rs A Aw n c cw W w0 rest rs.dropLast (rs.getLast hr) h0 h1 (List.dropLast_concat_getLast hr).symm hBp hP hm hlt hbs hR hcw hl hE
end
end Go.Proofs.YtbpobbadmbafaaaDoor
