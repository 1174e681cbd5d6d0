/-
  Package code's putFunc.
-/
import Derived.Test.YtcgoanfhabjpfaaHasF
import Derived.StillTailTactics
import Derived.Deep.RegionHeld3
namespace Go.Proofs.Ytcgoanfhabjpfaa
set_option linter.unusedVariables false
open Go.ChangeShapes Go.WideShapes Go.ChangeAt Go.RowKit

/-- 'put', its row's length spelled as a sum -/
def PutM (w : World) (base : Nat) (v : Value) (m : Nat) (l : List Int) (e : Ending) (w' : World) : Prop :=
  ∃ A c, e = .returned (.slice A m c) ∧ w'.ownsRow base 5 1 (.slice A m c) m (u8c l) ∧ Below base w w' ∧ Grew w v w' (.slice A m c)
theorem put_m (base : Nat) (A : Option Addr) (m c : Nat) (l : List Int) (v : Int) (n : Nat) (w : World) (h : w.ownsRow base 5 1 (.slice A m c) m (u8c l)) (h0 : 0 ≤ v) (h1 : v ≤ 18446744073709551615) (hn : n ≤ 8)
    (hb : base ≤ w.heap.size) (hr : m ≤ 4294967296) :
    Calls Try.prog 25 #[.slice A m c, .int .u64 v, .int .i64 n] w (PutM w base (.slice A m c) (m + n) (l ++ le n v)) := by
  have hm : l.length = m := by have := h.1; rw [length_u8c] at this; omega
  refine (put_any base A m c l v n w h hm h0 h1 hn hb hr).mono ?_
  rintro e w' ⟨A', c', rfl, ho, hb', hg'⟩
  have hl : (l ++ le n v).length = m + n := by rw [List.length_append, hm, length_le]
  rw [hl] at ho hg' ⊢
  exact ⟨A', c', rfl, ho, hb', hg'⟩
theorem put_1 (base : Nat) (A : Option Addr) (m c : Nat) (l : List Int) (v : Int) (w : World) (h : w.ownsRow base 5 1 (.slice A m c) m (u8c l)) (h0 : 0 ≤ v) (h1 : v ≤ 255)
    (hb : base ≤ w.heap.size) (hr : m ≤ 4294967296) :
    Calls Try.prog 25 #[.slice A m c, .int .u64 v, .int .i64 1] w (PutM w base (.slice A m c) (m + 1) (l ++ [v])) := by
  have := put_m base A m c l v 1 w h h0 (by omega) (by omega) hb hr
  rw [le_one h0 h1] at this
  exact this
theorem one_reads2 (w : World) (a b : Int) : Reads (w.alloc (.cells #[.int .u8 a, .int .u8 b] 5)) (w.heap.size + 1) 1 (some ⟨w.heap.size, 0, none⟩) 2 [.int .u8 a, .int .u8 b] :=
  ⟨rfl, fun _ => ⟨_, rfl, by simp, fun j u hj => by
    have ea : (⟨w.heap.size, 0, none⟩ : Addr).add j = ⟨w.heap.size, j, none⟩ := by simp [Addr.add]; exact Eq.symm
    rw [ea, (Blk.new w _ _).cell]
    simpa using hj⟩⟩
def PutB (w : World) (base : Nat) (l : List Int) (e : Ending) (w' : World) : Prop :=
  ∃ A c, e = .returned (.slice A l.length c) ∧ w'.ownsRow base 5 1 (.slice A l.length c) l.length (u8c l) ∧ Below base w w'
theorem length_encI_le (i : Ins) : (encI i).length ≤ 11 := by
  have h1 := argW_le i.op
  have h2 := immW_le i.op
  unfold encI
  simp only [List.length_cons, List.length_append, length_le]
  omega
theorem length_flat_le (is : List Ins) : (is.flatMap encI).length ≤ is.length * 11 := by
  induction is with
  | nil => simp
  | cons i is ih => have := length_encI_le i; simp only [List.flatMap_cons, List.length_append, List.length_cons]; omega
theorem length_encF_le {f : Fn} (h : okF f = true) : (encF f).length ≤ 721200 := by
  obtain ⟨h1, h2, h3, h4, h5, h6, h7, h8⟩ := okF_iff.1 h
  have := length_flat_le f.code
  unfold encF
  simp only [List.length_cons, List.length_append, length_le]
  omega
theorem flat_snoc {is : List Ins} {k : Nat} {x : Ins} (h : is[k]? = some x) : (is.take (k + 1)).flatMap encI = (is.take k).flatMap encI ++ encI x := by
  rw [List.take_add_one, h, List.flatMap_append]
  simp

set_option maxRecDepth 100000 in
set_option maxHeartbeats 6400000 in
theorem putF_any (base B : Nat) (A : Option Addr) (m c : Nat) (l : List Int) (r : Raw) (w : World) (h : w.ownsRow base 5 1 (.slice A m c) m (u8c l)) (hF : RdF w B r) (hok : okF r.fn = true)
    (hBb : B ≤ base) (hb : base ≤ w.heap.size) (hr : m ≤ 4000000000) :
    Calls Try.prog 26 #[.slice A m c, .agg #[.int .i64 r.fn.params, .slice r.lo r.fn.locals.length r.lc, .bool r.fn.result, .int .i64 r.fn.keep, .slice r.co r.fn.code.length r.cc]] w (PutB w base (l ++ encF r.fn)) := by
  obtain ⟨h1, h2, h3, h4, h5, h6, h7, h8⟩ := okF_iff.1 hok
  obtain ⟨⟨p, ls, fl, kp, is⟩, lo, lc, co, cc⟩ := r
  obtain ⟨nl, HNL⟩ : ∃ n, Hid (ls.length = n) := ⟨_, rfl⟩
  obtain ⟨nc, HNC⟩ : ∃ n, Hid (is.length = n) := ⟨_, rfl⟩
  have hL := hF.locals
  have hC := hF.code
  simp only at *
  rw [HNL.out] at h1 h4 hL ⊢
  rw [HNC.out] at h2 hC ⊢
  have H7 := Lib.hid h7
  have H8 := Lib.hid h8
  have HO := Lib.hid (own_alloc' h (.cells #[.int .i64 p, .slice lo nl lc, .bool fl, .int .i64 kp, .slice co nc cc] 47))
  have HL := Lib.hid hL
  have HC := Lib.hid hC
  have HBX := Lib.hid (Blk.new w 47 #[.int .i64 p, .slice lo nl lc, .bool fl, .int .i64 kp, .slice co nc cc])
  have HB0 : Hid (Below base w (w.alloc (.cells #[.int .i64 p, .slice lo nl lc, .bool fl, .int .i64 kp, .slice co nc cc] 47))) := (Below.refl _ _).alloc hb _
  have hz0 : base ≤ (w.alloc (.cells #[.int .i64 p, .slice lo nl lc, .bool fl, .int .i64 kp, .slice co nc cc] 47)).heap.size := by simp; omega
  clear h hF hok h7 h8 hL hC
  have hz1 : base ≤ w.heap.size := hb
  obtain ⟨FC, HFC⟩ : ∃ cs : Array Value, Hid (cs = #[.int .i64 p, .slice lo nl lc, .bool fl, .int .i64 kp, .slice co nc cc]) := ⟨_, rfl⟩
  go_enter Try.func26, Try.ntmps26
  go_wp2_with (go_at_call 25; refine (put_1 base A m c l p _ HO.out h3 (by omega) hz0 (by omega)).mono ?_; rintro e w1 ⟨A1, c1, rfl, ho1, hb1, hg1⟩; refine Hid.out ?_)
  have hx1 : Blk w1 w.heap.size 47 #[.int .i64 p, .slice lo nl lc, .bool fl, .int .i64 kp, .slice co nc cc] := hg1.blk HBX.out HO.out (by decide)
  have HX1 := Lib.hid hx1
  have HO1 := Lib.hid ho1
  have HB1 := Lib.hid (HB0.out.trans hb1)
  have hs1 : base ≤ w1.heap.size := Nat.le_trans hz0 hg1.1.size
  have x1 : w1.cell? ⟨w.heap.size, 1, none⟩ = some (.slice lo nl lc) := hx1.cell 1
  clear ho1 hb1 hg1 hx1
  refine Lib.hid ?_
  go_wp2_with (go_at_call 25; refine (put_1 base A1 (m + 1) c1 (l ++ [p]) nl _ HO1.out (by omega) (by omega) hs1 (by omega)).mono ?_; rintro e w2 ⟨A2, c2, rfl, ho2, hb2, hg2⟩; refine Hid.out ?_)
  clear x1
  have hx2 : Blk w2 w.heap.size 47 #[.int .i64 p, .slice lo nl lc, .bool fl, .int .i64 kp, .slice co nc cc] := hg2.blk HX1.out HO1.out (by decide)
  have HX2 := Lib.hid hx2
  have HO2 := Lib.hid ho2
  have HB2 := Lib.hid (HB1.out.trans hb2)
  have x1 : w2.cell? ⟨w.heap.size, 1, none⟩ = some (.slice lo nl lc) := hx2.cell 1
  clear ho2 hb2 hg2 hx2
  refine Lib.hid ?_
  go_wp2
  clear x1
  go_loopw [0, 23] (fun s i wr => ∃ (k : Nat) (A : Option Addr) (c : Nat), k ≤ nl ∧ i = .int .i64 k ∧ s = .slice A (m + 1 + 1 + k) c ∧ Hid (wr.ownsRow base 5 1 (.slice A (m + 1 + 1 + k) c) (m + 1 + 1 + k) (u8c (l ++ [p] ++ [(nl : Int)] ++ ls.take k))) ∧
      Hid (Blk wr w.heap.size 47 #[.int .i64 p, .slice lo nl lc, .bool fl, .int .i64 kp, .slice co nc cc]) ∧ Hid (Below base w wr)) (fun _ i _ => nl - (intOf i).toNat)
  case atStart => exact ⟨0, A2, c2, Nat.zero_le _, rfl, rfl, (by show w2.ownsRow _ _ _ _ _ _; simpa using HO2.out), HX2, HB2⟩
  case round =>
    clear HX2 HX1 HO1 HO2 HB1 HB2
    obtain ⟨k, A3, c3, hk, rfl, rfl, HO3, HX3, HB3⟩ := hrel
    have hs3 : base ≤ wr.heap.size := Nat.le_trans hz1 HB3.out.size
    by_cases hlt : k < nl
    · obtain ⟨b, off, x, rfl, hbB, HX, cx⟩ := (HL.out.below (HB3.out.mono hBb)).byte hlt
      have hx := kindB_iff.1 (H7.out x (List.mem_of_getElem? HX.out))
      have hx0 : 0 ≤ x := by omega
      have hx1 : x ≤ 255 := by omega
      clear hx
      go_wp2_with (go_at_call 25; refine (put_1 base A3 (m + 1 + 1 + k) c3 _ x _ HO3.out hx0 hx1 hs3 (by omega)).mono ?_; rintro e w4 ⟨A4, c4, rfl, ho4, hb4, hg4⟩; refine Hid.out ?_)
      have HX4 := Lib.hid (hg4.blk HX3.out HO3.out (by decide))
      have HO4 : Hid (w4.ownsRow base 5 1 (.slice A4 (m + 1 + 1 + (k + 1)) c4) (m + 1 + 1 + (k + 1)) (u8c (l ++ [p] ++ [(nl : Int)] ++ ls.take (k + 1)))) := by
        rw [List.take_add_one, HX.out, ← List.append_assoc]
        exact ho4
      have HB4 := Lib.hid (HB3.out.trans hb4)
      clear ho4 hb4 hg4
      refine Lib.hid ?_
      go_wp2
      go_roundw
      case rel => exact ⟨k + 1, A4, c4, by omega, by go_num, rfl, HO4, HX4, HB4⟩
      case measure => simp [intOf]; omega
    · obtain rfl : nl = k := by omega
      clear hlt hk
      have x2 : wr.cell? ⟨w.heap.size, 2, none⟩ = some (.bool fl) := HX3.out.cell 2
      have x3 : wr.cell? ⟨w.heap.size, 3, none⟩ = some (.int .i64 kp) := HX3.out.cell 3
      go_wp2
      obtain ⟨fb, HFB⟩ : ∃ v : Int, Hid (v = if fl then 1 else 0) := ⟨_, rfl⟩
      obtain ⟨kb, HKB⟩ : ∃ v : Int, Hid (v = keepByte kp) := ⟨_, rfl⟩
      have hkb : IntKind.u8.wrap kp = kb := by rw [IntKind.wrap_u8, HKB.out]; unfold keepByte; split <;> omega
      have hs4 : base ≤ (wr.alloc (.cells #[.int .u8 fb, .int .u8 kb] 5)).drew.heap.size := by simp; omega
      have hR4 : Hid (Reads (wr.alloc (.cells #[.int .u8 fb, .int .u8 kb] 5)).drew (wr.heap.size + 1) 1 (some ⟨wr.heap.size, 0, none⟩) 2 [.int .u8 fb, .int .u8 kb]) := one_reads2 wr fb kb
      have HO4 : Hid ((wr.alloc (.cells #[.int .u8 fb, .int .u8 kb] 5)).drew.ownsRow base 5 1 (.slice A3 (m + 1 + 1 + nl) c3) (m + 1 + 1 + nl) (u8c (l ++ [p] ++ [(nl : Int)] ++ ls.take nl))) := own_alloc' HO3.out (.cells #[.int .u8 fb, .int .u8 kb] 5)
      go_region_held3 (fun W => W.cell? ⟨w.heap.size, 2, none⟩ = some (.bool fl) ∧ W.cell? ⟨w.heap.size, 3, none⟩ = some (.int .i64 kp))
        (first | go_keep | exact ⟨hx5.cell 2, hx5.cell 3⟩)
        (first
          | (go_at_call 40; refine (flagByte_any fl _).mono ?_; rintro e w' ⟨rfl, rfl⟩; rw [← HFB.out])
          | (refine step_byte rfl _ _ rfl base (.slice A3 (m + 1 + 1 + nl) c3) (m + 1 + 1 + nl) (u8c (l ++ [p] ++ [(nl : Int)] ++ ls.take nl)) rfl HO4.out (wr.heap.size + 1) (some ⟨wr.heap.size, 0, none⟩) 2 2 [.int .u8 fb, .int .u8 kb] rfl hR4.out (u8c_one [fb, kb]) (by omega) hs4 ?_
             intro v' w5 hown hgr hor
             have hx5 : Blk w5 w.heap.size 47 #[.int .i64 p, .slice lo nl lc, .bool fl, .int .i64 kp, .slice co nc cc] := blk_own (show Blk (wr.alloc (.cells #[.int .u8 fb, .int .u8 kb] 5)).drew _ _ _ from HX3.out.alloc (.cells #[.int .u8 fb, .int .u8 kb] 5)) HO4.out hgr (by decide)))
      obtain ⟨A5, c5, rfl⟩ := own_slice hown
      obtain ⟨L5, HL5⟩ : ∃ L, Hid (L = l ++ [p] ++ [(nl : Int)] ++ ls ++ [fb, kb]) := ⟨_, rfl⟩
      have HO5 : Hid (w5.ownsRow base 5 1 (.slice A5 (m + 1 + 1 + nl + 2) c5) (m + 1 + 1 + nl + 2) (u8c L5)) := by
        have htk : ls.take nl = ls := List.take_of_length_le (by rw [HNL.out]; omega)
        rw [htk] at hown
        rw [HL5.out, u8c_append]
        exact hown
      have HX5 := Lib.hid hx5
      have HB5 : Hid (Below base w w5) := ((HB3.out.alloc hs3 _).drew).grown hgr hs4 fun i hi => (own_block_le HO4.out hi).1
      have x4 : w5.cell? ⟨w.heap.size, 4, none⟩ = some (.slice co nc cc) := hx5.cell 4
      have hs5 : base ≤ w5.heap.size := Nat.le_trans hz1 HB5.out.size
      clear hown hgr hor hx5 x2 x3 hR4 hs4 hkb
      refine Lib.hid ?_
      go_wp2_with (go_at_call 25; refine (put_m base A5 (m + 1 + 1 + nl + 2) c5 L5 nc 2 _ HO5.out (by omega) (by omega) (by omega) hs5 (by omega)).mono ?_; rintro e w6 ⟨A6, c6, rfl, ho6, hb6, hg6⟩; refine Hid.out ?_)
      have hx6 := hg6.blk HX5.out HO5.out (by decide)
      have HX6 := Lib.hid hx6
      have HB6 := Lib.hid (HB5.out.trans hb6)
      have HO6 : Hid (w6.ownsRow base 5 1 (.slice A6 (m + 1 + 1 + nl + 2 + 2) c6) (m + 1 + 1 + nl + 2 + 2) (u8c (L5 ++ le 2 nc))) := Lib.hid ho6
      clear x4
      have x4 : w6.cell? ⟨w.heap.size, 4, none⟩ = some (.slice co nc cc) := hx6.cell 4
      clear ho6 hb6 hg6 hx6
      obtain ⟨m6, hm6, hm6b⟩ : ∃ m6, m6 = m + 1 + 1 + nl + 2 + 2 ∧ m6 ≤ m + 300 := ⟨_, rfl, by omega⟩
      rw [← hm6] at HO6
      rw [← hm6]
      clear hm6
      refine Lib.hid ?_
      go_wp2
      clear x4
      go_loopw [0, 50] (fun s i wr => ∃ (k : Nat) (A : Option Addr) (mm c : Nat), k ≤ nc ∧ i = .int .i64 k ∧ s = .slice A mm c ∧ mm ≤ m6 + k * 11 ∧ Hid (wr.ownsRow base 5 1 (.slice A mm c) mm (u8c (L5 ++ le 2 nc ++ (is.take k).flatMap encI))) ∧
        Hid (Below base w wr)) (fun _ i _ => nc - (intOf i).toNat)
      case atStart => exact ⟨0, A6, m6, c6, Nat.zero_le _, rfl, rfl, by omega, (by show w6.ownsRow _ _ _ _ _ _; simpa using HO6.out), HB6⟩
      case round =>
        clear HX6 HX5 HO5 HO6 HB5 HB6 HO4 HO3 HX3 HB3
        obtain ⟨k, A7, m7, c7, hk, rfl, rfl, hm7, HO7, HB7⟩ := hrel
        have hs7 : base ≤ wr.heap.size := Nat.le_trans hz1 HB7.out.size
        by_cases hlt : k < nc
        · obtain ⟨b, off, x, rfl, hbB, HX, x0, x1, x2⟩ := (HC.out.below (HB7.out.mono hBb)).ins hlt
          have hokx := H8.out x (List.mem_of_getElem? HX.out)
          have hle := length_encI_le x
          have hfl := flat_snoc HX.out
          obtain ⟨hx1, hx2, hx3⟩ := okI_iff.1 hokx
          obtain ⟨op, arg, imm⟩ := x
          simp only at x0 x1 x2 hx1 hx2 hx3
          have hx1 := opB_iff.1 hx1
          have hx2 := fitB_iff.1 hx2
          have hx3 := fitB_iff.1 hx3
          have ha : (256 : Int) ^ argW op ≤ 65536 := by
            have := argW_le op
            obtain h | h | h : argW op = 0 ∨ argW op = 1 ∨ argW op = 2 := by omega
            all_goals rw [h]; decide
          have hi : (256 : Int) ^ immW op ≤ 18446744073709551616 := by
            obtain h | h : immW op = 0 ∨ immW op = 8 := by unfold immW; split <;> simp
            all_goals rw [h]; decide
          have o0 : 0 ≤ op := by omega
          have o1 : op ≤ 255 := by omega
          have a0 : 0 ≤ arg := hx2.1
          have a1 : arg ≤ 65535 := by omega
          have i0 : 0 ≤ imm := hx3.1
          have i1 : imm ≤ 18446744073709551615 := by omega
          obtain ⟨aw, HAW⟩ : ∃ n, Hid (n = argW op) := ⟨_, rfl⟩
          obtain ⟨iw, HIW⟩ : ∃ n, Hid (n = immW op) := ⟨_, rfl⟩
          have haw : aw ≤ 2 := by rw [HAW.out]; exact argW_le op
          have hiw : iw ≤ 8 := by rw [HIW.out]; exact immW_le op
          have HFL : Hid ((is.take (k + 1)).flatMap encI = (is.take k).flatMap encI ++ ([op] ++ le aw arg ++ le iw imm)) := Lib.hid (by rw [hfl, HAW.out, HIW.out]; simp [encI])
          have HLE : Hid (1 + aw + iw ≤ 11) := Lib.hid (by
            rw [HAW.out, HIW.out]
            unfold encI at hle
            simp only [List.length_cons, List.length_append, length_le] at hle
            omega)
          have HXX := Lib.hid HX
          clear hx1 hx2 hx3 ha hi hokx hle hfl HX
          obtain ⟨L7, HL7⟩ : ∃ L, Hid (L = L5 ++ le 2 nc ++ (is.take k).flatMap encI) := ⟨_, rfl⟩
          rw [← HL7.out] at HO7
          have HO8 := Lib.hid (own_alloc' HO7.out (.cells #[.int .u8 op, .int .i64 arg, .int .u64 imm] 51))
          have HX8 := Lib.hid (Blk.new wr 51 #[.int .u8 op, .int .i64 arg, .int .u64 imm])
          have HB8 := Lib.hid (HB7.out.alloc hs7 (.cells #[.int .u8 op, .int .i64 arg, .int .u64 imm] 51))
          have hs8 : base ≤ (wr.alloc (.cells #[.int .u8 op, .int .i64 arg, .int .u64 imm] 51)).heap.size := by simp; omega
          go_wp2_with (go_at_call 25; refine (put_1 base A7 m7 c7 L7 op _ HO8.out o0 o1 hs8 (by omega)).mono ?_; rintro e w9 ⟨A9, c9, rfl, ho9, hb9, hg9⟩; refine Hid.out ?_)
          have hx9 : Blk w9 wr.heap.size 51 #[.int .u8 op, .int .i64 arg, .int .u64 imm] := hg9.blk HX8.out HO8.out (by decide)
          have HX9 := Lib.hid hx9
          have HO9 := Lib.hid ho9
          have HB9 := Lib.hid (HB8.out.trans hb9)
          have hs9 : base ≤ w9.heap.size := Nat.le_trans hs8 hg9.1.size
          have y0 : w9.cell? ⟨wr.heap.size, 0, none⟩ = some (.int .u8 op) := hx9.cell 0
          have y1 : w9.cell? ⟨wr.heap.size, 1, none⟩ = some (.int .i64 arg) := hx9.cell 1
          clear ho9 hb9 hg9 hx9 x0 x1 x2
          refine Lib.hid ?_
          go_wp2
          refine wp_region_still_tail 7 (by kernel_rfl) (by kernel_rfl) ?_
          simp only [List.take_succ_cons, List.take_zero, List.drop_succ_cons, List.drop_zero]
          repeat (first | still_step | still_call (argSize_q _ _))
          refine wpStill_nil ?_
          rw [← HAW.out]
          change wpList _ _ _ _ _ w9.drew
          go_wp2_with (go_at_call 25; refine (put_m base A9 (m7 + 1) c9 (L7 ++ [op]) arg aw w9.drew HO9.out a0 (by omega) (by omega) hs9 (by omega)).mono ?_; rintro e w10 ⟨A10, c10, rfl, ho10, hb10, hg10⟩; refine Hid.out ?_)
          have hx10 : Blk w10 wr.heap.size 51 #[.int .u8 op, .int .i64 arg, .int .u64 imm] := hg10.blk (show Blk w9.drew _ _ _ from HX9.out) (show w9.drew.ownsRow _ _ _ _ _ _ from HO9.out) (by decide)
          have HO10 := Lib.hid ho10
          have HB10 := Lib.hid (HB9.out.drew.trans hb10)
          have hs10 : base ≤ w10.heap.size := Nat.le_trans hs9 hg10.1.size
          clear y0 y1
          have y0 : w10.cell? ⟨wr.heap.size, 0, none⟩ = some (.int .u8 op) := hx10.cell 0
          have y2 : w10.cell? ⟨wr.heap.size, 2, none⟩ = some (.int .u64 imm) := hx10.cell 2
          clear ho10 hb10 hg10 hx10
          refine Lib.hid ?_
          go_wp2
          refine wp_region_still_tail 6 (by kernel_rfl) (by kernel_rfl) ?_
          simp only [List.take_succ_cons, List.take_zero, List.drop_succ_cons, List.drop_zero]
          repeat (first | still_step | still_call (immSize_q _ _))
          refine wpStill_nil ?_
          rw [← HIW.out]
          change wpList _ _ _ _ _ w10.drew
          go_wp2_with (go_at_call 25; refine (put_m base A10 (m7 + 1 + aw) c10 (L7 ++ [op] ++ le aw arg) imm iw w10.drew HO10.out i0 i1 hiw hs10 (by omega)).mono ?_; rintro e w11 ⟨A11, c11, rfl, ho11, hb11, hg11⟩; refine Hid.out ?_)
          have HO11 : Hid (w11.ownsRow base 5 1 (.slice A11 (m7 + 1 + aw + iw) c11) (m7 + 1 + aw + iw) (u8c (L5 ++ le 2 nc ++ (is.take (k + 1)).flatMap encI))) := by
            rw [HFL.out, ← List.append_assoc, ← HL7.out]
            have : L7 ++ ([op] ++ le aw arg ++ le iw imm) = L7 ++ [op] ++ le aw arg ++ le iw imm := by simp
            rw [this]
            exact ho11
          have HB11 := Lib.hid (HB10.out.drew.trans hb11)
          have hm11 : m7 + 1 + aw + iw ≤ m6 + (k + 1) * 11 := by have := HLE.out; omega
          clear ho11 hb11 hg11 y0 y2
          refine Lib.hid ?_
          go_wp2
          go_roundw
          case rel => exact ⟨k + 1, A11, _, c11, by omega, by go_num, rfl, hm11, HO11, HB11⟩
          case measure => simp [intOf]; omega
        · obtain rfl : nc = k := by omega
          clear hlt hk
          go_wp2
          go_ret
          have hfin : l ++ encF ⟨p, ls, fl, kp, is⟩ = L5 ++ le 2 nc ++ (is.take nc).flatMap encI := by
            have htk : is.take nc = is := List.take_of_length_le (by rw [HNC.out]; omega)
            rw [htk, HL5.out, HFB.out, HKB.out]
            unfold encF
            simp only [HNL.out, HNC.out]
            simp
          have hlen : (l ++ encF ⟨p, ls, fl, kp, is⟩).length = m7 := by
            have := HO7.out.1
            rw [length_u8c] at this
            rw [hfin]; omega
          refine ⟨A7, c7, by rw [hlen]; rfl, by rw [hlen, hfin]; exact HO7.out, HB7.out⟩
end Go.Proofs.Ytcgoanfhabjpfaa
