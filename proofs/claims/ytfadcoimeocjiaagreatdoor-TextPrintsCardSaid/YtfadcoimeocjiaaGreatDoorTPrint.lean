/-
  Package text's Print.
-/
import Derived.Test.YtfadcoimeocjiaaGreatDoorTPutI
import Derived.Test.YtfadcoimeocjiaaGreatDoorEncode
namespace Go.Proofs.YtfadcoimeocjiaaGreatDoor
set_option linter.unusedVariables false
open Go.ChangeShapes Go.WideShapes Go.ChangeAt Go.RowKit

def insT (i : Ins) : List UInt8 := insW i ++ [10]
def fnT (f : Fn) : List UInt8 := headW f ++ [10] ++ f.code.flatMap insT
theorem printT_eq (fs : List Fn) : printT fs = fs.flatMap fnT := by
  induction fs with
  | nil => rfl
  | cons f r ih =>
    have e : printT (f :: r) = printT [f] ++ printT r := printT_append [f] r
    rw [e, ih, List.flatMap_cons]
    congr 1
    unfold printT linesW fnLs fnT joinW
    simp only [List.flatMap_cons, List.flatMap_nil, List.append_nil, List.flatMap_map]
    rfl
theorem insT_le {i : Ins} (h : okI i = true) : (insT i).length ≤ 29 := by
  obtain ⟨op, v, h1, h2, h3, h4, rfl, h5⟩ := okI_form h
  have hn := (nm_form op h1 h2).2.2.2.2.2
  have hd := nDigits_le v h4
  unfold insT
  rw [insW_form]
  split <;> simp <;> omega
theorem flagW_le (b : Bool) : (flagW b).length ≤ 1 := by cases b <;> decide
theorem headW_le {f : Fn} (h : okF f = true) : (headW f).length ≤ 310 := by
  have ⟨h1, _, h3, h4, h5, h6, h7, _⟩ := okF_iff.1 h
  have d1 := nDigits_le f.params.toNat (by omega)
  have d2 : (localsW f.locals).length ≤ 255 := by unfold localsW; split <;> simp <;> omega
  have d3 := flagW_le f.result
  have d4 : (keepW f.keep).length ≤ 20 := by
    unfold keepW
    split
    · decide
    · exact nDigits_le _ (by omega)
  unfold headW
  simp [funcW]; omega
theorem flatI_le (l : List Ins) (h : ∀ i ∈ l, okI i = true) : (l.flatMap insT).length ≤ 29 * l.length := by
  induction l with
  | nil => simp
  | cons i r ih =>
    have h1 := insT_le (h i (by simp))
    have h2 := ih (fun j hj => h j (by simp [hj]))
    rw [List.flatMap_cons, List.length_append, List.length_cons]; omega
theorem fnT_le {f : Fn} (h : okF f = true) : (fnT f).length ≤ 1901000 := by
  have h1 := headW_le h
  have hk := okF_iff.1 h
  have h2 := flatI_le f.code hk.2.2.2.2.2.2.2
  have h3 := hk.2.1
  unfold fnT
  simp only [List.length_append, List.length_cons, List.length_nil]
  omega
theorem printT_le (fs : List Fn) (h : ∀ f ∈ fs, okF f = true) : (printT fs).length ≤ 1901000 * fs.length := by
  rw [printT_eq]
  induction fs with
  | nil => simp
  | cons f r ih =>
    have h1 := fnT_le (h f (by simp))
    have h2 := ih (fun j hj => h j (by simp [hj]))
    rw [List.flatMap_cons, List.length_append, List.length_cons]; omega
theorem printT_snoc {fs : List Fn} {k : Nat} {f : Fn} (h : fs[k]? = some f) : printT (fs.take (k + 1)) = printT (fs.take k) ++ fnT f := by
  rw [printT_eq, printT_eq, List.take_add_one, h, List.flatMap_append]
  simp
theorem flatI_snoc {l : List Ins} {k : Nat} {i : Ins} (h : l[k]? = some i) : (l.take (k + 1)).flatMap insT = (l.take k).flatMap insT ++ insT i := by
  rw [List.take_add_one, h, List.flatMap_append]
  simp
theorem headW_blank (f : Fn) : funcW ++ blankW [Lib.decDigits f.params.toNat, localsW f.locals, flagW f.result, keepW f.keep] = headW f := by
  unfold headW blankW
  simp

set_option maxRecDepth 100000 in
set_option maxHeartbeats 2000000 in
theorem print_no (B : Nat) (A : Option Addr) (n c : Nat) (rs : List Raw) (w : World) (h : RdP w B A n rs) (hB : B ≤ w.heap.size) (hok : okP (fns rs) = false) :
    Calls Tryz.prog 6 #[.agg #[.slice A n c]] w fun e w' => e = .returned (.tuple #[.string (str []), .int .i64 30]) ∧ Below w.heap.size w w' := by
  have hb0 : Below w.heap.size w (w.alloc (.cells #[.slice A n c] 24)) := (Below.refl _ _).alloc (Nat.le_refl _) _
  have he := encode_any B A n c rs _ (h.alloc hB (.cells #[.slice A n c] 24)) (by simp; omega)
  have hq : encA (fns rs) = ([], 30) := by unfold encA; rw [hok]; rfl
  rw [hq] at he
  have HE := Lib.hid he
  have HB0 := Lib.hid hb0
  clear he hq h hb0
  go_enter Tryz.func6, Tryz.ntmps6
  go_wp2_with (go_at_call 11; refine HE.out.mono ?_; rintro e w2 ⟨A2, k2, c2, rfl, _, _, hb2⟩)
  go_ret2
  exact ⟨rfl, HB0.out.trans (hb2.mono (by simp))⟩

set_option maxRecDepth 100000 in
set_option maxHeartbeats 16000000 in
theorem print_ok (B : Nat) (A : Option Addr) (n c : Nat) (rs : List Raw) (w : World) (h : RdP w B A n rs) (hB : B ≤ w.heap.size) (hok : okP (fns rs) = true) (hE : Env w.heap.size w) :
    Calls Tryz.prog 6 #[.agg #[.slice A n c]] w fun e w' => e = .returned (.tuple #[.string (str (printT (fns rs))), .int .i64 0]) ∧ Below w.heap.size w w' := by
  obtain ⟨hk1, hk2, hk3⟩ := okP_iff.1 hok
  rw [length_fns, h.len] at hk1 hk2
  have hb0 : Below w.heap.size w (w.alloc (.cells #[.slice A n c] 24)) := (Below.refl _ _).alloc (Nat.le_refl _) _
  have he := encode_any B A n c rs _ (h.alloc hB (.cells #[.slice A n c] 24)) (by simp; omega)
  have hq : encA (fns rs) = (enc (fns rs), 0) := by unfold encA; rw [hok]; rfl
  rw [hq] at he
  have HEn := Lib.hid he
  have HB0 := Lib.hid hb0
  have H := Lib.hid h
  have HF := Lib.hid hk3
  have HN : Hid ((fns rs).length = n) := Lib.hid (by rw [length_fns, h.len])
  have HE := Lib.hid hE
  have cA : (w.alloc (.cells #[.slice A n c] 24)).cell? ⟨w.heap.size, 0, none⟩ = some (.slice A n c) := (Blk.new w _ _).cell 0
  have HX0 := Lib.hid (Blk.new w 24 #[.slice A n c])
  clear he hq h hb0 hok hk3 hE cA
  go_enter Tryz.func6, Tryz.ntmps6
  go_wp2_with (go_at_call 11; refine HEn.out.mono ?_; rintro e w2 ⟨A2, k2, c2, rfl, _, _, hb2⟩; refine Hid.out ?_)
  have hs2 : w.heap.size + 1 ≤ w2.heap.size := by have := hb2.size; simpa using this
  have HB2 := Lib.hid (HB0.out.trans (hb2.mono (by simp)))
  have hx2 : Blk w2 w.heap.size 24 #[.slice A n c] := HX0.out.below hb2 (by simp)
  have c0 : w2.cell? ⟨w.heap.size, 0, none⟩ = some (.slice A n c) := hx2.cell 0
  have hs3 : w.heap.size < w2.heap.size := by omega
  have c0a : ∀ o : Obj, (w2.alloc o).cell? ⟨w.heap.size, 0, none⟩ = some (.slice A n c) := fun o => (hx2.alloc o).cell 0
  have HW3 : Hid (Below w.heap.size w (w2.alloc (.cells #[.pointer none, .slice none 0 0] 50))) := Lib.hid (HB2.out.alloc (by omega) _)
  have HBF0 : Hid (BF w.heap.size w2.heap.size [] (w2.alloc (.cells #[.pointer none, .slice none 0 0] 50))) := Lib.hid (bf_weak (bf_fresh w2) (by omega))
  clear hb2 hx2
  refine Lib.hid ?_
  go_wp2
  obtain ⟨b, hbb⟩ : ∃ b, w2.heap.size = b := ⟨_, rfl⟩
  have hbw : w.heap.size + 1 ≤ b := by omega
  rw [hbb] at HBF0 ⊢
  clear hbb hs2 c0 hs3 c0a
  go_loopw [21] (fun i wr => ∃ k : Nat, k ≤ n ∧ i = .int .i64 k ∧ Hid (BF w.heap.size b (printT ((fns rs).take k)) wr) ∧ Hid (Below w.heap.size w wr)) (fun i _ => n - (intOf i).toNat)
  case atStart => exact ⟨0, by omega, rfl, HBF0, HW3⟩
  case round =>
    clear HBF0 HW3 HB2 HX0 HEn HB0
    obtain ⟨k, hk, rfl, HBF, HW⟩ := hrel
    have hzr : w.heap.size ≤ wr.heap.size := HW.out.size
    have hpl : (printT ((fns rs).take k)).length ≤ 484755000 := by
      have h1 := printT_le ((fns rs).take k) (fun f hf => HF.out f (List.mem_of_mem_take hf))
      rw [List.length_take] at h1
      omega
    by_cases hlt : k < n
    · obtain ⟨b1, o1, r, rfl, hbk1, HX, HRF, HWF, x0, x1, x2, x3, x4⟩ := (H.out.below (HW.out.mono hB)).fn hlt
      have HFK : Hid ((fns rs)[k]? = some r.fn) := Lib.hid (by unfold fns; rw [List.getElem?_map, HX.out]; rfl)
      have hof := HF.out r.fn (List.mem_of_getElem? HFK.out)
      have ⟨o1', o2, o3, o4, o5, o6, o7, o8⟩ := okF_iff.1 hof
      have HOF := Lib.hid hof
      have H7 := Lib.hid o7
      have H8 := Lib.hid o8
      have HSN := Lib.hid (printT_snoc HFK.out)
      have HRL := Lib.hid HRF.out.locals
      have HRC := Lib.hid HRF.out.code
      have hhw := headW_le hof
      have HHW := Lib.hid hhw
      clear hof hhw o7 o8
      obtain ⟨⟨p, ls, fl, kp, is⟩, lo, lc, co, cc⟩ := r
      simp only at x0 x1 x2 x3 x4 o1' o2 o3 o4 o5 o6 HRL HRC H7 H8
      obtain ⟨pn, rfl⟩ : ∃ pn : Nat, p = pn := ⟨p.toNat, by omega⟩
      obtain ⟨nl, HNL⟩ : ∃ x, Hid (x = ls.length) := ⟨_, rfl⟩
      obtain ⟨nc, HNC⟩ : ∃ x, Hid (x = is.length) := ⟨_, rfl⟩
      rw [← HNL.out] at x1 o1' o4 HRL
      rw [← HNC.out] at x4 o2 HRC
      obtain ⟨D1, HD1⟩ : ∃ D, Hid (D = str (Lib.decDigits pn)) := ⟨_, rfl⟩
      obtain ⟨D2, HD2⟩ : ∃ D, Hid (D = str (localsW ls)) := ⟨_, rfl⟩
      obtain ⟨D3, HD3⟩ : ∃ D, Hid (D = str (flagW fl)) := ⟨_, rfl⟩
      obtain ⟨D4, HD4⟩ : ∃ D, Hid (D = str (keepW kp)) := ⟨_, rfl⟩
      obtain ⟨L, HL⟩ : ∃ L, Hid (L = printT ((fns rs).take k)) := ⟨_, rfl⟩
      rw [← HL.out] at HBF hpl HSN
      have hbl := (bf_lt HBF.out).2
      have hpn : (pn : Int) ≤ 255 := by omega
      have hwp : IntKind.u64.wrap (pn : Int) = (pn : Int) := by rw [IntKind.wrap_u64]; omega
      have hbF : Below w.heap.size w (wr.alloc (.cells #[.int .i64 pn, .slice lo nl lc, .bool fl, .int .i64 kp, .slice co nc cc] 41)).drew := (HW.out.alloc hzr _).drew
      have HCh : Hid (∀ W, Below (wr.alloc (.cells #[.int .i64 pn, .slice lo nl lc, .bool fl, .int .i64 kp, .slice co nc cc] 41)).drew.heap.size (wr.alloc (.cells #[.int .i64 pn, .slice lo nl lc, .bool fl, .int .i64 kp, .slice co nc cc] 41)).drew W → (W.cell? ⟨wr.heap.size, 0, none⟩ = some (.int .i64 pn) ∧ W.cell? ⟨wr.heap.size, 1, none⟩ = some (.slice lo nl lc) ∧ W.cell? ⟨wr.heap.size, 2, none⟩ = some (.bool fl) ∧ W.cell? ⟨wr.heap.size, 3, none⟩ = some (.int .i64 kp)) ∧ Below w.heap.size w W ∧ Blk W wr.heap.size 41 #[.int .i64 pn, .slice lo nl lc, .bool fl, .int .i64 kp, .slice co nc cc]) := Lib.hid fun W hb => by
        have hx : Blk W wr.heap.size 41 #[.int .i64 pn, .slice lo nl lc, .bool fl, .int .i64 kp, .slice co nc cc] := (Blk.new wr 41 #[.int .i64 pn, .slice lo nl lc, .bool fl, .int .i64 kp, .slice co nc cc]).drew.below hb (by simp)
        exact ⟨⟨hx.cell 0, hx.cell 1, hx.cell 2, hx.cell 3⟩, hbF.trans (hb.mono hbF.size), hx⟩
      have HP1 : Hid (∀ W, Below (wr.alloc (.cells #[.int .i64 pn, .slice lo nl lc, .bool fl, .int .i64 kp, .slice co nc cc] 41)).drew.heap.size (wr.alloc (.cells #[.int .i64 pn, .slice lo nl lc, .bool fl, .int .i64 kp, .slice co nc cc] 41)).drew W → Calls Tryz.prog 13 #[.int .u64 pn] W fun e W2 => e = .returned (.string D1) ∧ Below W.heap.size W W2) := Lib.hid fun W hb => by
        rw [HD1.out]
        exact printed_any pn (by omega) W (HE.out.on (HCh.out W hb).2.1).here
      have HP2 : Hid (∀ W, Below (wr.alloc (.cells #[.int .i64 pn, .slice lo nl lc, .bool fl, .int .i64 kp, .slice co nc cc] 41)).drew.heap.size (wr.alloc (.cells #[.int .i64 pn, .slice lo nl lc, .bool fl, .int .i64 kp, .slice co nc cc] 41)).drew W → Calls Tryz.prog 14 #[.slice lo nl lc] W fun e W2 => e = .returned (.string D2) ∧ Below W.heap.size W W2) := Lib.hid fun W hb => by
        rw [HD2.out]
        have hb2 := (HCh.out W hb).2.1
        have hb3 : Below wr.heap.size wr W := ((Below.refl _ wr).alloc (Nat.le_refl _) _).drew.trans (hb.mono (by simp))
        exact localsWord_any ls B lo nl lc W (HRL.out.keep fun q hq => hb3.cell (by omega)) (by have := hb2.size; omega) HNL.out.symm H7.out o1'
      have HP3 : Hid (∀ W, Below (wr.alloc (.cells #[.int .i64 pn, .slice lo nl lc, .bool fl, .int .i64 kp, .slice co nc cc] 41)).drew.heap.size (wr.alloc (.cells #[.int .i64 pn, .slice lo nl lc, .bool fl, .int .i64 kp, .slice co nc cc] 41)).drew W → Calls Tryz.prog 15 #[.bool fl] W fun e W2 => e = .returned (.string D3) ∧ Below W.heap.size W W2) := Lib.hid fun W hb => by
        rw [HD3.out]
        exact flagWord_any fl W (HE.out.at_ (HCh.out W hb).2.1 (HCh.out W hb).2.1.size)
      have HP4 : Hid (∀ W, Below (wr.alloc (.cells #[.int .i64 pn, .slice lo nl lc, .bool fl, .int .i64 kp, .slice co nc cc] 41)).drew.heap.size (wr.alloc (.cells #[.int .i64 pn, .slice lo nl lc, .bool fl, .int .i64 kp, .slice co nc cc] 41)).drew W → Calls Tryz.prog 16 #[.int .i64 kp] W fun e W2 => e = .returned (.string D4) ∧ Below W.heap.size W W2) := Lib.hid fun W hb => by
        rw [HD4.out]
        exact keepWord_any kp o5 o6 W (HE.out.at_ (HCh.out W hb).2.1 (HCh.out W hb).2.1.size)
      have HPL : Hid (∀ W, Below (wr.alloc (.cells #[.int .i64 pn, .slice lo nl lc, .bool fl, .int .i64 kp, .slice co nc cc] 41)).drew.heap.size (wr.alloc (.cells #[.int .i64 pn, .slice lo nl lc, .bool fl, .int .i64 kp, .slice co nc cc] 41)).drew W → Calls Tryz.prog 12 #[.pointer (some ⟨b, 0, none⟩), .string ⟨#[102, 117, 110, 99]⟩, .slice (some ⟨W.heap.size, 0, none⟩) 4 4] (W.alloc (.cells #[.string D1, .string D2, .string D3, .string D4] 9)) fun e W5 =>
          e = .returned (.tuple #[]) ∧ Hid (BF w.heap.size b (L ++ (headW ⟨pn, ls, fl, kp, is⟩ ++ [10])) W5) ∧ Hid (Below w.heap.size w W5) ∧ Hid (Blk W5 wr.heap.size 41 #[.int .i64 pn, .slice lo nl lc, .bool fl, .int .i64 kp, .slice co nc cc]) ∧ (W5.cell? ⟨wr.heap.size, 0, none⟩ = some (.int .i64 pn) ∧ W5.cell? ⟨wr.heap.size, 1, none⟩ = some (.slice lo nl lc) ∧ W5.cell? ⟨wr.heap.size, 2, none⟩ = some (.bool fl) ∧ W5.cell? ⟨wr.heap.size, 3, none⟩ = some (.int .i64 kp))) := Lib.hid fun W hb => by
        obtain ⟨_, hbW, hxW⟩ := HCh.out W hb
        have hz := hbW.size
        have hb3 : Below wr.heap.size wr W := ((Below.refl _ wr).alloc (Nat.le_refl _) _).drew.trans (hb.mono (by simp))
        have hbs := hb3.size
        have hhl : (blankW [Lib.decDigits pn, localsW ls, flagW fl, keepW kp]).length ≤ 310 := by
          have h1 := headW_blank ⟨pn, ls, fl, kp, is⟩
          have h2 := HHW.out
          rw [← h1] at h2
          simp only [List.length_append, Int.toNat_natCast] at h2
          omega
        refine (putLine_any w.heap.size b W.heap.size L funcW [Lib.decDigits pn, localsW ls, flagW fl, keepW kp] (some ⟨W.heap.size, 0, none⟩) 4 4 _ rfl _ (bf_below HBF.out (hb3.trans ((Below.refl _ _).alloc hbs _))) (by simp; omega) rfl (.inr ⟨rfl, ?_, by omega⟩) (by have : funcW.length = 4 := rfl; omega)).mono ?_
        · have h := Blk.new W 9 #[.string D1, .string D2, .string D3, .string D4]
          rw [HD1.out, HD2.out, HD3.out, HD4.out] at h ⊢
          exact h
        · rintro e W5 ⟨rfl, h3, k3⟩
          have hx5 := k3.blk (hxW.alloc (.cells #[.string D1, .string D2, .string D3, .string D4] 9)) (by omega) (by decide)
          refine ⟨rfl, Lib.hid ?_, Lib.hid ((hbW.alloc hz _).trans k3.1), Lib.hid hx5, hx5.cell 0, hx5.cell 1, hx5.cell 2, hx5.cell 3⟩
          rw [← headW_blank]
          simpa using h3
      have hS0 := (HCh.out _ (Below.refl _ _)).1
      clear hwp
      have hwp : IntKind.u64.wrap (pn : Int) = (pn : Int) := by rw [IntKind.wrap_u64]; omega
      obtain ⟨wo, rfl⟩ : ∃ wo, wo = wr := ⟨_, rfl⟩
      go_wp2
      go_region_held3 (fun W => W.cell? ⟨wo.heap.size, 0, none⟩ = some (.int .i64 pn) ∧ W.cell? ⟨wo.heap.size, 1, none⟩ = some (.slice lo nl lc) ∧ W.cell? ⟨wo.heap.size, 2, none⟩ = some (.bool fl) ∧ W.cell? ⟨wo.heap.size, 3, none⟩ = some (.int .i64 kp))
        (first | go_keep | exact hS0 | exact hS1 | exact hS2 | exact hS3 | exact hS4 | exact hS5)
        (first
          | (go_at_call 13; refine (HP1.out _ (Below.refl _ _)).mono ?_; rintro e W1 ⟨rfl, hc1⟩; have hS1 := (HCh.out _ hc1).1)
          | (go_at_call 14; refine (HP2.out _ hc1).mono ?_; rintro e W2 ⟨rfl, hb2⟩; have hc2 := hc1.trans (hb2.mono hc1.size); have hS2 := (HCh.out _ hc2).1)
          | (go_at_call 15; refine (HP3.out _ hc2).mono ?_; rintro e W3 ⟨rfl, hb3⟩; have hc3 := hc2.trans (hb3.mono hc2.size); have hS3 := (HCh.out _ hc3).1)
          | (go_at_call 16; refine (HP4.out _ hc3).mono ?_; rintro e W4 ⟨rfl, hb4⟩; have hc4 := hc3.trans (hb4.mono hc3.size); have hS4 := (HCh.out _ hc4).1)
          | (go_at_call 12; refine (HPL.out _ hc4).mono ?_; rintro e W5 ⟨rfl, HBF5, HW5, HX5, hS5⟩))
      have x5 : W5.cell? ⟨wo.heap.size, 4, none⟩ = some (.slice co nc cc) := HX5.out.cell 4
      have hz5 : w.heap.size ≤ W5.heap.size := HW5.out.size
      have HRC0 := Lib.hid (HRC.out.keep (w' := w) fun q hq => (HW.out.cell (p := q) (by omega)).symm)
      clear hS0 hS1 hS2 hS3 hS4 hS5 hc1 hb2 hc2 hb3 hc3 hb4 hc4 HP1 HP2 HP3 HP4 HPL HCh HX5 hbF x0 x1 x2 x3 x4 hwp
      go_wp2
      clear x5
      go_loopw [43] (fun i wr => ∃ j : Nat, j ≤ nc ∧ i = .int .i64 j ∧ Hid (BF w.heap.size b (L ++ (headW ⟨pn, ls, fl, kp, is⟩ ++ [10]) ++ (is.take j).flatMap insT) wr) ∧ Hid (Below w.heap.size w wr)) (fun i _ => nc - (intOf i).toNat)
      case atStart => exact ⟨0, by omega, rfl, Lib.hid (by simpa using HBF5.out), HW5⟩
      case round =>
        clear HBF5 HW5
        obtain ⟨j, hj, rfl, HBj, HWj⟩ := hrel
        have hzj : w.heap.size ≤ wr.heap.size := HWj.out.size
        have hlj : ((is.take j).flatMap insT).length ≤ 29 * 65535 := by
          have h1 := flatI_le (is.take j) (fun i hi => H8.out i (List.mem_of_mem_take hi))
          rw [List.length_take] at h1
          have : min j is.length ≤ 65535 := by have := HNC.out; omega
          omega
        by_cases hjl : j < nc
        · obtain ⟨b2, o2', x, rfl, hbk2, HXJ, y0, y1, y2⟩ := (HRC0.out.below (HWj.out.mono hB)).ins hjl
          have hoi := H8.out x (List.mem_of_getElem? HXJ.out)
          have HFS := Lib.hid (flatI_snoc HXJ.out)
          have ba : Below wr.heap.size wr (wr.alloc (.cells #[.int .u8 x.op, .int .i64 x.arg, .int .u64 x.imm] 45)) := (Below.refl _ _).alloc (Nat.le_refl _) _
          have HPI := Lib.hid (putInstr_any w.heap.size b _ x hoi _ (bf_below HBj.out ba) (by simp; omega) (by have := HHW.out; simp only [List.length_append, List.length_cons, List.length_nil]; omega) (HE.out.on (HWj.out.alloc hzj (.cells #[.int .u8 x.op, .int .i64 x.arg, .int .u64 x.imm] 45))))
          have HWa := Lib.hid (HWj.out.alloc hzj (.cells #[.int .u8 x.op, .int .i64 x.arg, .int .u64 x.imm] 45))
          clear ba hoi hlj
          go_wp2_with (go_at_call 17; refine HPI.out.mono ?_; rintro e W6 ⟨rfl, h6, k6⟩; refine Hid.out ?_)
          have H6 : Hid (BF w.heap.size b (L ++ (headW ⟨pn, ls, fl, kp, is⟩ ++ [10]) ++ (is.take (j + 1)).flatMap insT) W6) := Lib.hid (by rw [HFS.out]; unfold insT at h6 ⊢; simpa using h6)
          have K6 := Lib.hid (HWa.out.trans k6.1)
          clear h6 k6
          refine Lib.hid ?_
          go_wp2
          go_roundw
          case rel => exact ⟨j + 1, by omega, by go_num, H6, K6⟩
          case measure => simp [intOf]; omega
        · obtain rfl : j = nc := by omega
          have hfull : is.take j = is := List.take_of_length_le (by have := HNC.out; omega)
          have HBN : Hid (BF w.heap.size b (printT ((fns rs).take (k + 1))) wr) := Lib.hid (by
            have h1 := HBj.out
            rw [hfull] at h1
            rw [HSN.out]
            unfold fnT
            simpa using h1)
          clear hfull hlj
          go_wp2
          go_roundw
          case rel => exact ⟨k + 1, by omega, by go_num, HBN, HWj⟩
          case measure => simp [intOf]; omega
    · obtain rfl : k = n := by omega
      have htl : (fns rs).take k = fns rs := List.take_of_length_le (by have := HN.out; omega)
      rw [htl] at HBF
      clear htl hpl
      go_wp2_with (go_at_call 18; refine (Tryz.Builder_String_any_k w.heap.size b (printT (fns rs)) _ HBF.out (by omega)).mono ?_; rintro e w4 ⟨rfl, _, hb4, _⟩)
      go_ret2
      exact ⟨rfl, HW.out.trans hb4⟩
end Go.Proofs.YtfadcoimeocjiaaGreatDoor
