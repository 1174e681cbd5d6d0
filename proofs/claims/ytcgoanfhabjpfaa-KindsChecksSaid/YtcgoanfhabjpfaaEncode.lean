/-
  Package code's Encode.
-/
import Derived.Test.YtcgoanfhabjpfaaPutF
namespace Go.Proofs.Ytcgoanfhabjpfaa
set_option linter.unusedVariables false
open Go.ChangeShapes Go.WideShapes Go.ChangeAt Go.RowKit

/-- what Encode answers -/
def encA (fs : List Fn) : List Int × Int := if okP fs then (enc fs, 0) else ([], 30)
def EncR (w : World) (q : List Int × Int) (e : Ending) (w' : World) : Prop :=
  ∃ (A : Option Addr) (k c : Nat), e = .returned (.tuple #[.slice A k c, .int .i64 q.2]) ∧ q.1.length = k ∧ w'.ownsRow w.heap.size 5 1 (.slice A k c) k (u8c q.1) ∧ Below w.heap.size w w'
theorem own_lit2 (w : World) (base : Nat) (a b : Int) (hb : base ≤ w.heap.size) : (w.alloc (.cells #[.int .u8 a, .int .u8 b] 5)).ownsRow base 5 1 (.slice (some ⟨w.heap.size, 0, none⟩) 2 2) 2 (u8c [a, b]) :=
  ⟨rfl, .inr ⟨w.heap.size, 2, _, rfl, hb, heap_alloc_new w _, Nat.le_refl _, by unfold maxLen; omega, rfl, rfl⟩⟩
theorem flatF_snoc {fs : List Fn} {k : Nat} {x : Fn} (h : fs[k]? = some x) : (fs.take (k + 1)).flatMap encF = (fs.take k).flatMap encF ++ encF x := by
  rw [List.take_add_one, h, List.flatMap_append]
  simp

set_option maxRecDepth 100000 in
set_option maxHeartbeats 6400000 in
theorem encode_any (B : Nat) (A : Option Addr) (n c : Nat) (rs : List Raw) (w : World) (h : RdP w B A n rs) (hB : B ≤ w.heap.size) :
    Calls Try.prog 14 #[.agg #[.slice A n c]] w (EncR w (encA (fns rs))) := by
  have hlen := h.len
  have hsz := h.sz
  have H := Lib.hid h
  have H0 := Lib.hid (h.alloc hB (.cells #[.slice A n c] 24))
  have HBX := Lib.hid (Blk.new w 24 #[.slice A n c])
  have HB0 : Hid (Below w.heap.size w (w.alloc (.cells #[.slice A n c] 24))) := (Below.refl _ _).alloc (Nat.le_refl _) _
  clear h
  cases hok : okP (fns rs) with
  | false =>
    have hq : encA (fns rs) = ([], 30) := by unfold encA; rw [hok]; rfl
    have HOK := Lib.hid hok
    rw [hq]
    clear hok hq hlen
    go_enter Try.func14, Try.ntmps14
    go_wp2_with (go_at_call 24; refine (hasBytes_any B A n c rs _ H0.out (by simp; omega)).mono ?_; rintro e w2 ⟨rfl, hb2⟩; rw [HOK.out]; refine Hid.out ?_)
    have HB2 := Lib.hid (HB0.out.trans (hb2.mono (by simp)))
    clear hb2
    refine Lib.hid ?_
    go_wp2
    go_ret2
    exact ⟨none, 0, 0, rfl, rfl, own_none _ _ _ _, HB2.out⟩
  | true =>
    have hq : encA (fns rs) = (enc (fns rs), 0) := by unfold encA; rw [hok]; rfl
    have HOK := Lib.hid hok
    obtain ⟨hk1, hk2, hk3⟩ := okP_iff.1 hok
    rw [length_fns, hlen] at hk1 hk2
    have HEN : Hid (enc (fns rs) = 87 :: 76 :: (n : Int) :: (fns rs).flatMap encF) := Lib.hid (by unfold enc; rw [length_fns, hlen])
    have HLN := Lib.hid hlen
    have HF := Lib.hid hk3
    rw [hq]
    clear hok hq hlen hk3
    go_enter Try.func14, Try.ntmps14
    go_wp2_with (go_at_call 24; refine (hasBytes_any B A n c rs _ H0.out (by simp; omega)).mono ?_; rintro e w2 ⟨rfl, hb2⟩; rw [HOK.out]; refine Hid.out ?_)
    have hs2 : w.heap.size + 1 ≤ w2.heap.size := by have := hb2.size; simpa using this
    have hx2 : Blk w2 w.heap.size 24 #[.slice A n c] := HBX.out.below hb2 HBX.out.lt
    have HX2 := Lib.hid (hx2.alloc (.cells #[.int .u8 87, .int .u8 76] 5))
    have HO2 := Lib.hid (own_lit2 w2 w.heap.size 87 76 (by omega))
    have HB2 : Hid (Below w.heap.size w (w2.alloc (.cells #[.int .u8 87, .int .u8 76] 5))) := (HB0.out.trans (hb2.mono (by simp))).alloc (by omega) _
    have x0 : w2.cell? ⟨w.heap.size, 0, none⟩ = some (.slice A n c) := hx2.cell 0
    have x0a : ∀ o : Obj, (w2.alloc o).cell? ⟨w.heap.size, 0, none⟩ = some (.slice A n c) := fun o => (World.cell?_alloc_lt w2 o _ (by show w.heap.size < _; omega)).trans x0
    have hs2' : w.heap.size ≤ (w2.alloc (.cells #[.int .u8 87, .int .u8 76] 5)).heap.size := by simp; omega
    clear hb2 hx2
    refine Lib.hid ?_
    go_wp2_with (go_at_call 25; refine (put_1 w.heap.size _ 2 2 [87, 76] n _ HO2.out (by omega) (by omega) hs2' (by omega)).mono ?_; rintro e w3 ⟨A3, c3, rfl, ho3, hb3, hg3⟩; refine Hid.out ?_)
    have hx3 : Blk w3 w.heap.size 24 #[.slice A n c] := hg3.blk HX2.out HO2.out (by decide)
    have HO3 := Lib.hid ho3
    have HB3 := Lib.hid (HB2.out.trans hb3)
    clear x0 x0a
    have x0 : w3.cell? ⟨w.heap.size, 0, none⟩ = some (.slice A n c) := hx3.cell 0
    clear ho3 hb3 hg3 hx3
    refine Lib.hid ?_
    go_wp2
    clear x0
    go_loopw [4, 20] (fun s i wr => ∃ (k : Nat) (A : Option Addr) (mm c : Nat), k ≤ n ∧ i = .int .i64 k ∧ s = .slice A mm c ∧ mm ≤ 3 + k * 721200 ∧ Hid (wr.ownsRow w.heap.size 5 1 (.slice A mm c) mm (u8c (87 :: 76 :: (n : Int) :: ((fns rs).take k).flatMap encF))) ∧ Hid (Below w.heap.size w wr)) (fun _ i _ => n - (intOf i).toNat)
    case atStart => exact ⟨0, A3, 3, c3, Nat.zero_le _, rfl, rfl, by omega, HO3, HB3⟩
    case round =>
      clear HO3 HO2 HB3 HB2 HX2
      obtain ⟨k, A4, m4, c4, hk, rfl, rfl, hm4, HO4, HB4⟩ := hrel
      have hs4 : w.heap.size ≤ wr.heap.size := HB4.out.size
      by_cases hlt : k < n
      · obtain ⟨b, off, r, rfl, hb, HX, HRF, HW, x0, x1, x2, x3, x4⟩ := (H.out.below (HB4.out.mono hB)).fn hlt
        have HFK : Hid ((fns rs)[k]? = some r.fn) := Lib.hid (by unfold fns; rw [List.getElem?_map, HX.out]; rfl)
        have HRK : Hid (okF r.fn = true) := Lib.hid (HF.out _ (List.mem_of_getElem? HFK.out))
        have hle := length_encF_le HRK.out
        obtain ⟨L4, HL4⟩ : ∃ L, Hid (L = 87 :: 76 :: (n : Int) :: ((fns rs).take k).flatMap encF) := ⟨_, rfl⟩
        rw [← HL4.out] at HO4
        have hml : L4.length = m4 := by have := HO4.out.1; rw [length_u8c] at this; omega
        obtain ⟨m5, HM5⟩ : ∃ m, Hid ((L4 ++ encF r.fn).length = m) := ⟨_, rfl⟩
        have hm5 : m5 ≤ 3 + (k + 1) * 721200 := by rw [← HM5.out, List.length_append, hml]; omega
        have HO5 := Lib.hid (own_alloc' HO4.out (.cells #[.int .i64 r.fn.params, .slice r.lo r.fn.locals.length r.lc, .bool r.fn.result, .int .i64 r.fn.keep, .slice r.co r.fn.code.length r.cc] 47))
        have HRF5 : Hid (RdF (wr.alloc (.cells #[.int .i64 r.fn.params, .slice r.lo r.fn.locals.length r.lc, .bool r.fn.result, .int .i64 r.fn.keep, .slice r.co r.fn.code.length r.cc] 47)) B r) := HRF.out.keep fun p hp => World.cell?_alloc_lt wr _ p (by omega)
        have HB5 := Lib.hid (HB4.out.alloc hs4 (.cells #[.int .i64 r.fn.params, .slice r.lo r.fn.locals.length r.lc, .bool r.fn.result, .int .i64 r.fn.keep, .slice r.co r.fn.code.length r.cc] 47))
        have hs5 : w.heap.size ≤ (wr.alloc (.cells #[.int .i64 r.fn.params, .slice r.lo r.fn.locals.length r.lc, .bool r.fn.result, .int .i64 r.fn.keep, .slice r.co r.fn.code.length r.cc] 47)).heap.size := by simp; omega
        clear hle hml
        go_wp2_with (go_at_call 26; refine (putF_any w.heap.size B A4 m4 c4 L4 r _ HO5.out HRF5.out HRK.out hB hs5 (by omega)).mono ?_; rintro e w6 ⟨A6, c6, rfl, ho6, hb6⟩; rw [HM5.out] at ho6; rw [HM5.out]; refine Hid.out ?_)
        have HO6 : Hid (w6.ownsRow w.heap.size 5 1 (.slice A6 m5 c6) m5 (u8c (87 :: 76 :: (n : Int) :: ((fns rs).take (k + 1)).flatMap encF))) := by
          rw [flatF_snoc HFK.out]
          rw [HL4.out] at ho6
          exact ho6
        have HB6 := Lib.hid (HB5.out.trans hb6)
        clear ho6 hb6
        refine Lib.hid ?_
        go_wp2
        go_roundw
        case rel => exact ⟨k + 1, A6, m5, c6, by omega, by go_num, rfl, hm5, HO6, HB6⟩
        case measure => simp [intOf]; omega
      · obtain rfl : n = k := by omega
        clear hlt hk
        have HFIN : Hid (((fns rs).take n) = fns rs) := Lib.hid (List.take_of_length_le (by rw [length_fns, HLN.out]; omega))
        have hml : (87 :: 76 :: (n : Int) :: ((fns rs).take n).flatMap encF).length = m4 := by have := HO4.out.1; rw [length_u8c] at this; omega
        have HML := Lib.hid hml
        clear hml
        go_wp2
        go_ret2
        refine ⟨A4, m4, c4, rfl, ?_, ?_, HB4.out⟩
        · rw [HEN.out, ← HFIN.out]; exact HML.out
        · have := HO4.out
          rw [HFIN.out] at this
          rw [HEN.out]
          exact this
end Go.Proofs.Ytcgoanfhabjpfaa
