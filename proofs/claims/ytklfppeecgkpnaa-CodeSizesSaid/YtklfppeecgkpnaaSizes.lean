/-
  The walk through CodeSizes.
-/
import Derived.Test.YtklfppeecgkpnaaFirst
namespace Go.Proofs.Ytklfppeecgkpnaa
set_option linter.unusedVariables false
open Go.ChangeShapes Go.WideShapes Go.ChangeAt Go.RowKit

/-- the bytes of the operands -/
def wsum : List Ins → Nat
  | [] => 0
  | i :: is => argW i.op + immW i.op + wsum is
theorem wsum_app (a b : List Ins) : wsum (a ++ b) = wsum a + wsum b := by
  induction a with
  | nil => simp [wsum]
  | cons x a ih => simp only [List.cons_append, wsum, ih]; omega
theorem wsum_snoc {is : List Ins} {k : Nat} {x : Ins} (h : is[k]? = some x) : wsum (is.take (k + 1)) = wsum (is.take k) + (argW x.op + immW x.op) := by
  rw [List.take_add_one, h, wsum_app]
  simp [wsum]
theorem wsum_le (is : List Ins) : wsum is ≤ is.length * 10 := by
  induction is with
  | nil => simp [wsum]
  | cons i is ih => have h1 := argW_le i.op; have h2 := immW_le i.op; simp only [wsum, List.length_cons]; omega
theorem flat_wsum (is : List Ins) : (is.flatMap encI).length = is.length + wsum is := by
  induction is with
  | nil => rfl
  | cons i is ih => simp only [List.flatMap_cons, List.length_append, List.length_cons, wsum, ih, encI, length_le]; omega
theorem length_encF (f : Fn) : (encF f).length = 6 + f.locals.length + f.code.length + wsum f.code := by
  unfold encF
  simp only [List.length_cons, List.length_append, length_le, flat_wsum]
  omega
def fsum : List Fn → Nat
  | [] => 0
  | f :: fs => (6 + f.locals.length + f.code.length + wsum f.code) + fsum fs
theorem fsum_app (a b : List Fn) : fsum (a ++ b) = fsum a + fsum b := by
  induction a with
  | nil => simp [fsum]
  | cons x a ih => simp only [List.cons_append, fsum, ih]; omega
theorem fsum_snoc {fs : List Fn} {k : Nat} {x : Fn} (h : fs[k]? = some x) : fsum (fs.take (k + 1)) = fsum (fs.take k) + (6 + x.locals.length + x.code.length + wsum x.code) := by
  rw [List.take_add_one, h, fsum_app]
  simp [fsum]
theorem length_enc (fs : List Fn) : (enc fs).length = 3 + fsum fs := by
  unfold enc
  have : (fs.flatMap encF).length = fsum fs := by
    induction fs with
    | nil => rfl
    | cons f fs ih => rw [List.flatMap_cons, List.length_append, ih, length_encF]; rfl
  simp only [List.length_cons, this]
  omega

/-- the operand's bytes, by cases -/
theorem width_cases (op : Int) : (op = 1 ∧ argW op + immW op = 8) ∨ ((op = 21 ∨ op = 22) ∧ argW op + immW op = 2) ∨ ((op = 2 ∨ op = 3 ∨ op = 4 ∨ op = 23 ∨ op = 25) ∧ argW op + immW op = 1) ∨
    ((op ≠ 1 ∧ op ≠ 2 ∧ op ≠ 3 ∧ op ≠ 4 ∧ op ≠ 21 ∧ op ≠ 22 ∧ op ≠ 23 ∧ op ≠ 25) ∧ argW op + immW op = 0) := by
  unfold argW immW
  by_cases h1 : op = 1
  · left; subst h1; decide
  · by_cases h2 : op = 21 ∨ op = 22
    · right; left
      rw [if_neg (by omega), if_pos h2, if_neg h1]
      exact ⟨h2, rfl⟩
    · by_cases h3 : op = 2 ∨ op = 3 ∨ op = 4 ∨ op = 23 ∨ op = 25
      · right; right; left
        rw [if_pos h3, if_neg h1]
        exact ⟨h3, rfl⟩
      · right; right; right
        rw [if_neg h3, if_neg h2, if_neg h1]
        exact ⟨by omega, rfl⟩

set_option maxRecDepth 100000 in
set_option maxHeartbeats 16000000 in
theorem sizes_walk (A : Option Addr) (n c : Nat) (rs : List Raw) (w : World) (h : RdP w w.heap.size A n rs) :
    Calls Try.prog 8 #[.agg #[.slice A n c]] w fun e w' => e = .returned (.bool true) ∧ Below w.heap.size w w' := by
  have hsz := h.sz
  have H := Lib.hid h
  have HBX := Lib.hid (Blk.new w 26 #[.slice A n c])
  have HB0 : Hid (Below w.heap.size w (w.alloc (.cells #[.slice A n c] 26))) := (Below.refl _ _).alloc (Nat.le_refl _) _
  have HLN := Lib.hid h.len
  clear h
  go_enter Try.func8, Try.ntmps8
  go_wp2_with (go_at_call 9; refine (first_any _).mono ?_; rintro e w1 ⟨rfl, hb1⟩; refine Hid.out ?_)
  have HX1 : Hid (Blk w1 w.heap.size 26 #[.slice A n c]) := HBX.out.below hb1 HBX.out.lt
  have HB1 := Lib.hid (HB0.out.trans (hb1.mono (by simp)))
  have HP1 := Lib.hid (H.out.below HB1.out)
  have x0 : w1.cell? ⟨w.heap.size, 0, none⟩ = some (.slice A n c) := HX1.out.cell 0
  have hz1 : w.heap.size + 1 ≤ w1.heap.size := HX1.out.lt
  clear hb1
  refine Lib.hid ?_
  go_wp2_with (go_at_call 13; refine (encode_any w.heap.size A n c rs _ HP1.out (by omega)).mono ?_; rintro e w2 ⟨A2, k2, c2, rfl, hk2, ho2, hb2⟩; refine Hid.out ?_)
  have HX2 : Hid (Blk w2 w.heap.size 26 #[.slice A n c]) := HX1.out.below hb2 (by omega)
  have HB2 := Lib.hid (HB1.out.trans (hb2.mono (by omega)))
  have HK2 := Lib.hid hk2
  clear x0
  have x0 : w2.cell? ⟨w.heap.size, 0, none⟩ = some (.slice A n c) := HX2.out.cell 0
  clear hb2 ho2 hk2
  cases hok : okP (fns rs) with
  | false =>
    have hq : encA (fns rs) = ([], 30) := by unfold encA; rw [hok]; rfl
    obtain rfl : k2 = 0 := by have := HK2.out; rw [hq] at this; exact this.symm
    rw [hq]
    clear hq hok
    refine Lib.hid ?_
    go_wp2
    go_ret
    exact ⟨rfl, HB2.out⟩
  | true =>
    have hq : encA (fns rs) = (enc (fns rs), 0) := by unfold encA; rw [hok]; rfl
    have hkk : k2 = 3 + fsum (fns rs) := by have := HK2.out; rw [hq] at this; rw [← length_enc]; exact this.symm
    have HKK := Lib.hid hkk
    obtain ⟨hk1, hk2', hk3⟩ := okP_iff.1 hok
    rw [length_fns, HLN.out] at hk1 hk2'
    have HF := Lib.hid hk3
    rw [hq]
    clear hq hok hkk hk3
    refine Lib.hid ?_
    go_wp2
    go_loopw [5, 25] (fun v i wr => ∃ (k m : Nat), k ≤ n ∧ i = .int .i64 k ∧ v = .int .i64 m ∧ m ≤ 3 + k * 721200 ∧ Hid (m = 3 + fsum ((fns rs).take k)) ∧ Hid (Below w.heap.size w wr)) (fun _ i _ => n - (intOf i).toNat)
    case atStart => exact ⟨0, 3, Nat.zero_le _, rfl, rfl, by omega, rfl, HB2⟩
    case round =>
      clear HX1 HX2 HB1 HB2 HP1 x0
      obtain ⟨k, m, hk, rfl, rfl, hm, HM, HB3⟩ := hrel
      have hs3 : w.heap.size ≤ wr.heap.size := HB3.out.size
      by_cases hlt : k < n
      · obtain ⟨b, off, r, rfl, hb, HX, HRF, HW, y0, y1, y2, y3, y4⟩ := (H.out.below HB3.out).fn hlt
        have HFK : Hid ((fns rs)[k]? = some r.fn) := Lib.hid (by unfold fns; rw [List.getElem?_map, HX.out]; rfl)
        obtain ⟨g1, g2, g3, g4, g5, g6, g7, g8⟩ := okF_iff.1 (HF.out _ (List.mem_of_getElem? HFK.out))
        have HWS := Lib.hid (wsum_le r.fn.code)
        have HMN : Hid (∀ q, q = m + 6 + r.fn.locals.length + r.fn.code.length + wsum r.fn.code → q = 3 + fsum ((fns rs).take (k + 1))) := fun q hq => by rw [hq, fsum_snoc HFK.out, HM.out]; omega
        have HCR := Lib.hid HRF.out.code
        obtain ⟨nl, HNL⟩ : ∃ x, Hid (x = r.fn.locals.length) := ⟨_, rfl⟩
        obtain ⟨nc, HNC⟩ : ∃ x, Hid (x = r.fn.code.length) := ⟨_, rfl⟩
        obtain ⟨is, HIS⟩ : ∃ x, Hid (x = r.fn.code) := ⟨_, rfl⟩
        rw [← HNL.out] at y1 HMN g1
        rw [← HNC.out, ← HIS.out] at HMN HCR
        rw [← HNC.out] at y4 g2
        rw [← HIS.out] at HWS
        have HISL : Hid (is.length = nc) := Lib.hid (by rw [HIS.out, HNC.out])
        have HB4 := Lib.hid (HB3.out.alloc hs3 (.cells #[.int .i64 r.fn.params, .slice r.lo nl r.lc, .bool r.fn.result, .int .i64 r.fn.keep, .slice r.co nc r.cc] 43))
        clear g3 g4 g5 g6 g7 g8
        go_wp2
        obtain ⟨wo, rfl⟩ : ∃ wo : World, wo = wr := ⟨_, rfl⟩
        go_loopw [5, 42] (fun v i wr => ∃ (j q : Nat), j ≤ nc ∧ i = .int .i64 j ∧ v = .int .i64 q ∧ q ≤ m + 6 + nl + nc + j * 10 ∧ Hid (q = m + 6 + nl + nc + wsum (is.take j)) ∧ Hid (Below w.heap.size w wr)) (fun _ i _ => nc - (intOf i).toNat)
        case atStart => exact ⟨0, m + 6 + nl + nc, Nat.zero_le _, rfl, by go_num, by omega, rfl, HB4⟩
        case round =>
          obtain ⟨j, q, hj, rfl, rfl, hq, HQ, HB5⟩ := hrel
          have hs5 : w.heap.size ≤ wr.heap.size := HB5.out.size
          by_cases hjl : j < nc
          · obtain ⟨b2, off2, x, hco, hb2, HX2, z0, z1, z2⟩ := (HCR.out.keep (fun p hp => (HB5.out.cell (p := p) hp).trans (HB3.out.cell (p := p) hp).symm)).ins hjl
            rw [hco]
            have HWN := Lib.hid (wsum_snoc HX2.out)
            have HB6 := Lib.hid (HB5.out.alloc hs5 (.cells #[.int .u8 x.op, .int .i64 x.arg, .int .u64 x.imm] 48))
            obtain ⟨op, arg, imm⟩ := x
            simp only at z0 z1 z2
            have hwc := width_cases op
            have HQN : Hid (∀ d, argW op + immW op = d → q + d = m + 6 + nl + nc + wsum (is.take (j + 1))) := fun d hd => by rw [HWN.out, HQ.out]; simp only; omega
            clear hco
            rcases hwc with ⟨rfl, hwd⟩ | ⟨rfl | rfl, hwd⟩ | ⟨rfl | rfl | rfl | rfl | rfl, hwd⟩ | ⟨hno, hwd⟩
            all_goals
              have HQ2 := Lib.hid (HQN.out _ hwd)
              clear hwd
            all_goals try
              (have g1' : (op == 1) = false := by simp; omega
               have g2' : (op == 2) = false := by simp; omega
               have g3' : (op == 3) = false := by simp; omega
               have g4' : (op == 4) = false := by simp; omega
               have g5' : (op == 21) = false := by simp; omega
               have g6' : (op == 22) = false := by simp; omega
               have g7' : (op == 23) = false := by simp; omega
               have g8' : (op == 25) = false := by simp; omega
               clear hno)
            all_goals
              go_wp2
              go_roundw
              case rel => first
                | exact ⟨j + 1, q, by omega, by go_num, rfl, by omega, HQ2, HB6⟩
                | exact ⟨j + 1, q + 1, by omega, by go_num, by go_num, by omega, HQ2, HB6⟩
                | exact ⟨j + 1, q + 2, by omega, by go_num, by go_num, by omega, HQ2, HB6⟩
                | exact ⟨j + 1, q + 8, by omega, by go_num, by go_num, by omega, HQ2, HB6⟩
              case measure => simp [intOf]; omega
          · obtain rfl : nc = j := by omega
            clear hjl hj
            have HQ2 : Hid (q = 3 + fsum ((fns rs).take (k + 1))) := Lib.hid (HMN.out q (by rw [HQ.out, List.take_of_length_le (by rw [HISL.out]; omega)]))
            go_wp2
            go_roundw
            case rel => exact ⟨k + 1, q, by omega, by go_num, rfl, by omega, HQ2, HB5⟩
            case measure => simp [intOf]; omega
      · obtain rfl : n = k := by omega
        obtain rfl : m = k2 := by
          rw [HM.out, HKK.out, List.take_of_length_le (by rw [length_fns, HLN.out]; omega)]
        clear hlt hk
        go_wp2
        go_ret
        exact ⟨rfl, HB3.out⟩
end Go.Proofs.Ytklfppeecgkpnaa
