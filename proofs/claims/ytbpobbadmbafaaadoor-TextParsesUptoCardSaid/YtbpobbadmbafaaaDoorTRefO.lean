/-
  The document's one.
-/
import Derived.Test.YtbpobbadmbafaaaDoorTRefW
import Derived.Test.YtbpobbadmbafaaaDoorTRefH
namespace Go.Proofs.YtbpobbadmbafaaaDoor
set_option linter.unusedVariables false
open Go.ChangeShapes Go.WideShapes Go.ChangeAt Go.RowKit

/-- Value, as it is called -/
theorem rValue_any (d : List UInt8) (hd : d.length ≤ 1073741824) (w : World) : Calls Tryd.prog 21 #[.string (str d)] w (RValuePost d w) := by
  have HV := Lib.hid (rvalue_any d hd w)
  obtain ⟨X, HX⟩ : ∃ X, Hid (X = str d) := ⟨_, rfl⟩
  rw [← HX.out] at HV ⊢
  go_enter Tryd.func21, Tryd.ntmps21
  go_wp2_with (go_at_call 36; refine HV.out.mono ?_; rintro e w2 ⟨rfl, rfl⟩)
  go_ret2
  exact ⟨rfl, rfl⟩
theorem value_q {d : List UInt8} (hd : d.length ≤ 1073741824) {Z : ByteArray} (hZ : Z = str d) (z : Int) (b : Bool) (hz : z = ((numOf d).getD 0 : Nat)) (hb : b = (numOf d).isSome) (w : World) :
    Calls Tryd.prog 21 #[.string Z] w fun e w' => e = .returned (.tuple #[.int .u64 z, .bool b]) ∧ w = w' := by
  subst hZ hz hb
  exact rValue_any d hd w

/-- what 'one' answers -/
def OnePost (ws : List (List UInt8)) (w : World) (e : Ending) (w' : World) : Prop :=
  ∃ (i : Ins) (ok : Bool), e = .returned (.tuple #[.agg #[.int .u8 i.op, .int .i64 i.arg, .int .u64 i.imm], .bool ok]) ∧ (∀ w0 r, ws = w0 :: r → insL w0 r = if ok then some i else none) ∧ Below w.heap.size w w'
theorem one_yes {ws : List (List UInt8)} {op : Nat} {i : Ins} (h1 : 1 ≤ op) (h2 : op ≤ 32) (hg : GoodW ws) (h : opD op ws = some i) : ∀ w0 r, ws = w0 :: r → insL w0 r = if true then some i else none := by
  rintro w0 r rfl
  exact ((opD_iff op h1 h2 w0 r hg i).1 h).1
theorem one_no {ws : List (List UInt8)} (i : Ins) (hg : GoodW ws) (h : ∀ op, 1 ≤ op → op ≤ 32 → opD op ws = none) : ∀ w0 r, ws = w0 :: r → insL w0 r = if false then some i else none := by
  rintro w0 r rfl
  cases hi : insL w0 r with
  | none => rfl
  | some j =>
    exfalso
    obtain ⟨op, v, a1, a2, _, _, _, rfl, _⟩ := insL_some hi
    have := (opD_iff op a1 a2 w0 r hg _).2 ⟨hi, rfl⟩
    rw [h op a1 a2] at this
    cases this
theorem opD_skip {op : Nat} {ws : List (List UInt8)} (h : insD op ws = none) : opD op ws = none := by unfold opD; rw [h]
theorem opD_bad {op : Nat} {ws : List (List UInt8)} {i : Ins} (h : insD op ws = some i) (hc : ¬ (okI i = true ∧ insW i = joinS ws)) : opD op ws = none := by unfold opD; rw [h]; simp only; rw [if_neg hc]
theorem opD_good {op : Nat} {ws : List (List UInt8)} {i : Ins} (h : insD op ws = some i) (h1 : okI i = true) (h2 : insW i = joinS ws) : opD op ws = some i := by unfold opD; rw [h]; simp only; rw [if_pos ⟨h1, h2⟩]
theorem nones_snoc {ws : List (List UInt8)} {k : Nat} (h : ∀ j, 1 ≤ j → j < k → opD j ws = none) (hk : opD k ws = none) : ∀ j, 1 ≤ j → j < k + 1 → opD j ws = none := fun j h1 h2 => by
  by_cases e : j = k
  · rw [e]; exact hk
  · exact h j h1 (by omega)

set_option maxRecDepth 100000 in
set_option maxHeartbeats 16000000 in
theorem one_any (B : Nat) (A : Option Addr) (c : Nat) (ws : List (List UInt8)) (w : World) (h : Reads w B 1 A ws.length (strs ws)) (hB : B ≤ w.heap.size) (hg : GoodW ws) (hl : ws.length ≤ 1073741825) (hm : ∀ x ∈ ws, x.length ≤ 1073741824) (hj : (joinS ws).length ≤ 2147483648) :
    Calls Tryd.prog 14 #[.slice A ws.length c] w (OnePost ws w) := by
  have HJD := Lib.hid (fun (W : World) (hW : Below w.heap.size w W) => joined_any B A c ws W (h.below (hW.mono hB)) hl hj)
  obtain ⟨JS, HJS⟩ : ∃ S, Hid (S = str (joinS ws)) := ⟨_, rfl⟩
  rw [← HJS.out] at HJD
  obtain ⟨n, HN⟩ : ∃ n, Hid (n = ws.length) := ⟨_, rfl⟩
  rw [← HN.out] at h hl HJD ⊢
  have HR := Lib.hid h
  have HG := Lib.hid hg
  have HM := Lib.hid hm
  have HX0 : Hid (Blk (w.alloc (.cells #[.int .u8 0, .int .i64 0, .int .u64 0] 40)) w.heap.size 40 #[.int .u8 0, .int .i64 0, .int .u64 0]) := Lib.hid (Blk.new w _ _)
  have HB0 : Hid (Below w.heap.size w (w.alloc (.cells #[.int .u8 0, .int .i64 0, .int .u64 0] 40))) := Lib.hid ((Below.refl _ _).alloc (Nat.le_refl _) _)
  clear h hg hm hj
  go_enter Tryd.func14, Tryd.ntmps14
  go_wp2
  go_loopw [4] (fun o wr => ∃ k : Nat, 1 ≤ k ∧ k ≤ 33 ∧ o = .int .u8 k ∧ Hid (∀ j, 1 ≤ j → j < k → opD j ws = none) ∧ Hid (Blk wr w.heap.size 40 #[.int .u8 0, .int .i64 0, .int .u64 0]) ∧ Hid (Below w.heap.size w wr)) (fun o _ => 33 - (intOf o).toNat)
  case atStart => exact ⟨1, by omega, by omega, rfl, Lib.hid (fun j h1 h2 => by omega), HX0, HB0⟩
  case round =>
    clear HX0 HB0
    obtain ⟨k, hk1, hk2, rfl, HNO, HXr, HW⟩ := hrel
    have hzr : w.heap.size < wr.heap.size := HXr.out.lt
    by_cases hlt : k ≤ 32
    · by_cases hn2 : n = 2
      · have gn : ((n : Int) == 2) = true := by simp; omega
        have gn2 : (n == 2) = true := by simp; omega
        obtain ⟨w0, x, hwx⟩ : ∃ w0 x, ws = [w0, x] := by have h := HN.out; rw [hn2] at h; match ws, h with | [a, b], _ => exact ⟨a, b, rfl⟩
        subst hn2
        have HWX := Lib.hid hwx
        obtain ⟨b9, o9, x9, rfl, hb9, HX9, cx⟩ := (HR.out.below (HW.out.mono hB)).str (k := 1) (by omega)
        have hx9 : x9 = x := by have := HX9.out; rw [hwx] at this; simpa using this.symm
        subst hx9
        have hxl := HM.out x9 (by rw [hwx]; simp)
        obtain ⟨Z, HZ⟩ : ∃ Z, Hid (Z = str x9) := ⟨_, Lib.hid rfl⟩
        rw [← HZ.out] at cx
        have hb9' : b9 < wr.heap.size := by omega
        have cxa : ∀ o : Obj, (wr.alloc o).cell? ⟨b9, o9 + 1, none⟩ = some (.string Z) := fun o => (World.cell?_alloc_lt wr o ⟨b9, o9 + 1, none⟩ hb9').trans cx
        clear hwx HX9
        cases hnum : numOf x9 with
        | none =>
          have HV := Lib.hid (value_q hxl HZ.out 0 false (by rw [hnum]; rfl) (by rw [hnum]; rfl))
          have HNN := Lib.hid (nones_snoc HNO.out (opD_skip (by rw [HWX.out, insD]; simp only [hnum])))
          have gk : decide ((k : Int) ≤ 32) = true := by simp; omega
          clear hnum hxl
          go_wp2_with (go_at_call 21; refine (HV.out _).mono ?_; rintro e w5 ⟨rfl, rfl⟩)
          go_roundw
          case rel => exact ⟨k + 1, by omega, by omega, by go_num, HNN, Lib.hid (HXr.out.alloc _), Lib.hid (HW.out.alloc (by omega) _)⟩
          case measure => simp [intOf]; omega
        | some v =>
          have HV := Lib.hid (value_q hxl HZ.out (v : Nat) true (by rw [hnum]; rfl) (by rw [hnum]; rfl))
          have hv64 := (numOf_some hnum).2
          have HNUM := Lib.hid hnum
          clear hnum hxl
          by_cases hk1' : k = 1
          · have gq : ((k : Int) == 1) = true := by simp; omega
            have gq2 : ((k : Int) != 1) = false := by simp; omega
            have HD : Hid (insD k ws = some ⟨(k : Int), 0, (v : Int)⟩) := Lib.hid (by rw [HWX.out, insD]; simp only [HNUM.out]; rw [if_pos hk1', hk1']; rfl)
            clear hk1'
            have gk : decide ((k : Int) ≤ 32) = true := by simp; omega
            have HBx : Hid (Blk (wr.alloc (.cells #[.int .u8 k, .int .i64 0, .int .u64 v] 40)) wr.heap.size 40 #[.int .u8 k, .int .i64 0, .int .u64 v]) := Lib.hid (Blk.new wr _ _)
            have HWx : Hid (Below w.heap.size w (wr.alloc (.cells #[.int .u8 k, .int .i64 0, .int .u64 v] 40))) := Lib.hid (HW.out.alloc (by omega) _)
            have HXx : Hid (Blk (wr.alloc (.cells #[.int .u8 k, .int .i64 0, .int .u64 v] 40)) w.heap.size 40 #[.int .u8 0, .int .i64 0, .int .u64 0]) := Lib.hid (HXr.out.alloc _)
            have hzx : wr.heap.size < (wr.alloc (.cells #[.int .u8 k, .int .i64 0, .int .u64 v] 40)).heap.size := HBx.out.lt
            have HSY := Lib.hid (says_any ⟨(k : Int), 0, v⟩ (wr.alloc (.cells #[.int .u8 k, .int .i64 0, .int .u64 v] 40)) ⟨by simp only; omega, by simp only; omega, by simp only; omega, by simp only; omega, by simp only; omega, by simp only; omega⟩)
            cases hok : okI ⟨(k : Int), 0, v⟩ with
            | false =>
              have HNN := Lib.hid (nones_snoc HNO.out (opD_bad HD.out (fun h => by rw [hok] at h; cases h.1)))
              rw [hok] at HSY
              clear hok
              go_wp2_with (first | (go_at_call 21; refine (HV.out _).mono ?_; rintro e w5 ⟨rfl, rfl⟩) | (go_at_call 24; refine HSY.out.mono ?_; rintro e w6 ⟨rfl, hb6⟩; have HB6 := Lib.hid (HWx.out.trans (hb6.mono HWx.out.size)); have HX6 := Lib.hid (HXx.out.below hb6 HXx.out.lt); clear hb6))
              go_roundw
              case rel => exact ⟨k + 1, by omega, by omega, by go_num, HNN, HX6, HB6⟩
              case measure => simp [intOf]; omega
            | true =>
              have HLN := Lib.hid (fun W : World => line_any ⟨(k : Int), 0, v⟩ hok W)
              obtain ⟨LS, HLS⟩ : ∃ S, Hid (S = str (insW ⟨(k : Int), 0, v⟩)) := ⟨_, rfl⟩
              rw [← HLS.out] at HLN
              have HOKI := Lib.hid hok
              rw [hok] at HSY
              clear hok
              by_cases hc : insW ⟨(k : Int), 0, v⟩ = joinS ws
              · have hq : (LS.toList == JS.toList) = true := by rw [HLS.out, HJS.out, str_toList, str_toList]; simpa using hc
                have HY := Lib.hid (one_yes hk1 hlt HG.out (opD_good HD.out HOKI.out hc))
                clear hc
                go_wp2_with (first | (go_at_call 21; refine (HV.out _).mono ?_; rintro e w5 ⟨rfl, rfl⟩) | (go_at_call 24; refine HSY.out.mono ?_; rintro e w6 ⟨rfl, hb6⟩; have HB6 := Lib.hid (HWx.out.trans (hb6.mono HWx.out.size)); have HX6 := Lib.hid (HXx.out.below hb6 HXx.out.lt); have hy6 := HBx.out.below hb6 HBx.out.lt; have HY6 := Lib.hid hy6; have d0 := hy6.cell 0; have d1 := hy6.cell 1; have d2 := hy6.cell 2; have hz6 : wr.heap.size < w6.heap.size := hy6.lt; clear hb6 hy6) | (go_at_call 25; refine (HLN.out _).mono ?_; rintro e w7 ⟨rfl, hb7⟩; have HB7 := Lib.hid (HB6.out.trans (hb7.mono HB6.out.size)); have HX7 := Lib.hid (HX6.out.below hb7 HX6.out.lt); have hy7 := HY6.out.below hb7 HY6.out.lt; have e0 := hy7.cell 0; have e1 := hy7.cell 1; have e2 := hy7.cell 2; have f0 := HX7.out.cell 0; have f1 := HX7.out.cell 1; have f2 := HX7.out.cell 2; have r0 := HX7.out.frozen 0; have r1 := HX7.out.frozen 1; have r2 := HX7.out.frozen 2; have hz7 : wr.heap.size < w7.heap.size := hy7.lt; have HJ7 := Lib.hid (HJD.out w7 HB7.out); clear hb7 hy7 d0 d1 d2) | (go_at_call 23; refine HJ7.out.mono ?_; rintro e w8 ⟨rfl, rfl⟩))
                have hx8 : Blk (((w7.setCell ⟨w.heap.size, 0, none⟩ (.int .u8 k)).setCell ⟨w.heap.size, 1, none⟩ (.int .i64 0)).setCell ⟨w.heap.size, 2, none⟩ (.int .u64 v)) w.heap.size 40 #[.int .u8 k, .int .i64 0, .int .u64 v] := ((HX7.out.set_ 0 _).set_ 1 _).set_ 2 _
                have s0 := hx8.cell 0
                have s1 := hx8.cell 1
                have s2 := hx8.cell 2
                exact bodyPost_ret (v := .tuple #[.agg #[.int .u8 k, .int .i64 0, .int .u64 v], .bool true]) (by simp [results, Tryd.results14, go_sem, s0, s1, s2]) rfl ⟨⟨(k : Int), 0, v⟩, true, rfl, HY.out, ((HB7.out.setCell (p := ⟨w.heap.size, 0, none⟩) (by simp) _).setCell (p := ⟨w.heap.size, 1, none⟩) (by simp) _).setCell (p := ⟨w.heap.size, 2, none⟩) (by simp) _⟩
              · have hq : (LS.toList == JS.toList) = false := by rw [HLS.out, HJS.out, str_toList, str_toList]; simpa using hc
                have HNN := Lib.hid (nones_snoc HNO.out (opD_bad HD.out (fun h => hc h.2)))
                clear hc
                go_wp2_with (first | (go_at_call 21; refine (HV.out _).mono ?_; rintro e w5 ⟨rfl, rfl⟩) | (go_at_call 24; refine HSY.out.mono ?_; rintro e w6 ⟨rfl, hb6⟩; have HB6 := Lib.hid (HWx.out.trans (hb6.mono HWx.out.size)); have HX6 := Lib.hid (HXx.out.below hb6 HXx.out.lt); have hy6 := HBx.out.below hb6 HBx.out.lt; have HY6 := Lib.hid hy6; have d0 := hy6.cell 0; have d1 := hy6.cell 1; have d2 := hy6.cell 2; have hz6 : wr.heap.size < w6.heap.size := hy6.lt; clear hb6 hy6) | (go_at_call 25; refine (HLN.out _).mono ?_; rintro e w7 ⟨rfl, hb7⟩; have HB7 := Lib.hid (HB6.out.trans (hb7.mono HB6.out.size)); have HX7 := Lib.hid (HX6.out.below hb7 HX6.out.lt); have hy7 := HY6.out.below hb7 HY6.out.lt; have e0 := hy7.cell 0; have e1 := hy7.cell 1; have e2 := hy7.cell 2; have f0 := HX7.out.cell 0; have f1 := HX7.out.cell 1; have f2 := HX7.out.cell 2; have r0 := HX7.out.frozen 0; have r1 := HX7.out.frozen 1; have r2 := HX7.out.frozen 2; have hz7 : wr.heap.size < w7.heap.size := hy7.lt; have HJ7 := Lib.hid (HJD.out w7 HB7.out); clear hb7 hy7 d0 d1 d2) | (go_at_call 23; refine HJ7.out.mono ?_; rintro e w8 ⟨rfl, rfl⟩))
                go_roundw
                case rel => exact ⟨k + 1, by omega, by omega, by go_num, HNN, HX7, HB7⟩
                case measure => simp [intOf]; omega
          · have gq : ((k : Int) == 1) = false := by simp; omega
            have gq2 : ((k : Int) != 1) = true := by simp; omega
            by_cases hbig : 65535 < v
            · have gb : decide ((65535 : Int) < (v : Int)) = true := by simp; omega
              have gb2 : decide (65535 < v) = true := by simp; omega
              have HNN := Lib.hid (nones_snoc HNO.out (opD_skip (by rw [HWX.out, insD]; simp only [HNUM.out]; rw [if_neg hk1', if_pos hbig])))
              have gk : decide ((k : Int) ≤ 32) = true := by simp; omega
              clear hk1' hbig
              go_wp2_with (go_at_call 21; refine (HV.out _).mono ?_; rintro e w5 ⟨rfl, rfl⟩)
              go_roundw
              case rel => exact ⟨k + 1, by omega, by omega, by go_num, HNN, Lib.hid (HXr.out.alloc _), Lib.hid (HW.out.alloc (by omega) _)⟩
              case measure => simp [intOf]; omega
            · have gb : decide ((65535 : Int) < (v : Int)) = false := by simp; omega
              have gb2 : decide (65535 < v) = false := by simp; omega
              have HD : Hid (insD k ws = some ⟨(k : Int), (v : Int), 0⟩) := Lib.hid (by rw [HWX.out, insD]; simp only [HNUM.out]; rw [if_neg hk1', if_neg hbig])
              clear hk1'
              have gk : decide ((k : Int) ≤ 32) = true := by simp; omega
              have HBx : Hid (Blk (wr.alloc (.cells #[.int .u8 k, .int .i64 v, .int .u64 0] 40)) wr.heap.size 40 #[.int .u8 k, .int .i64 v, .int .u64 0]) := Lib.hid (Blk.new wr _ _)
              have HWx : Hid (Below w.heap.size w (wr.alloc (.cells #[.int .u8 k, .int .i64 v, .int .u64 0] 40))) := Lib.hid (HW.out.alloc (by omega) _)
              have HXx : Hid (Blk (wr.alloc (.cells #[.int .u8 k, .int .i64 v, .int .u64 0] 40)) w.heap.size 40 #[.int .u8 0, .int .i64 0, .int .u64 0]) := Lib.hid (HXr.out.alloc _)
              have hzx : wr.heap.size < (wr.alloc (.cells #[.int .u8 k, .int .i64 v, .int .u64 0] 40)).heap.size := HBx.out.lt
              have HSY := Lib.hid (says_any ⟨(k : Int), v, 0⟩ (wr.alloc (.cells #[.int .u8 k, .int .i64 v, .int .u64 0] 40)) ⟨by simp only; omega, by simp only; omega, by simp only; omega, by simp only; omega, by simp only; omega, by simp only; omega⟩)
              cases hok : okI ⟨(k : Int), v, 0⟩ with
              | false =>
                have HNN := Lib.hid (nones_snoc HNO.out (opD_bad HD.out (fun h => by rw [hok] at h; cases h.1)))
                rw [hok] at HSY
                clear hok
                go_wp2_with (first | (go_at_call 21; refine (HV.out _).mono ?_; rintro e w5 ⟨rfl, rfl⟩) | (go_at_call 24; refine HSY.out.mono ?_; rintro e w6 ⟨rfl, hb6⟩; have HB6 := Lib.hid (HWx.out.trans (hb6.mono HWx.out.size)); have HX6 := Lib.hid (HXx.out.below hb6 HXx.out.lt); clear hb6))
                go_roundw
                case rel => exact ⟨k + 1, by omega, by omega, by go_num, HNN, HX6, HB6⟩
                case measure => simp [intOf]; omega
              | true =>
                have HLN := Lib.hid (fun W : World => line_any ⟨(k : Int), v, 0⟩ hok W)
                obtain ⟨LS, HLS⟩ : ∃ S, Hid (S = str (insW ⟨(k : Int), v, 0⟩)) := ⟨_, rfl⟩
                rw [← HLS.out] at HLN
                have HOKI := Lib.hid hok
                rw [hok] at HSY
                clear hok
                by_cases hc : insW ⟨(k : Int), v, 0⟩ = joinS ws
                · have hq : (LS.toList == JS.toList) = true := by rw [HLS.out, HJS.out, str_toList, str_toList]; simpa using hc
                  have HY := Lib.hid (one_yes hk1 hlt HG.out (opD_good HD.out HOKI.out hc))
                  clear hc
                  go_wp2_with (first | (go_at_call 21; refine (HV.out _).mono ?_; rintro e w5 ⟨rfl, rfl⟩) | (go_at_call 24; refine HSY.out.mono ?_; rintro e w6 ⟨rfl, hb6⟩; have HB6 := Lib.hid (HWx.out.trans (hb6.mono HWx.out.size)); have HX6 := Lib.hid (HXx.out.below hb6 HXx.out.lt); have hy6 := HBx.out.below hb6 HBx.out.lt; have HY6 := Lib.hid hy6; have d0 := hy6.cell 0; have d1 := hy6.cell 1; have d2 := hy6.cell 2; have hz6 : wr.heap.size < w6.heap.size := hy6.lt; clear hb6 hy6) | (go_at_call 25; refine (HLN.out _).mono ?_; rintro e w7 ⟨rfl, hb7⟩; have HB7 := Lib.hid (HB6.out.trans (hb7.mono HB6.out.size)); have HX7 := Lib.hid (HX6.out.below hb7 HX6.out.lt); have hy7 := HY6.out.below hb7 HY6.out.lt; have e0 := hy7.cell 0; have e1 := hy7.cell 1; have e2 := hy7.cell 2; have f0 := HX7.out.cell 0; have f1 := HX7.out.cell 1; have f2 := HX7.out.cell 2; have r0 := HX7.out.frozen 0; have r1 := HX7.out.frozen 1; have r2 := HX7.out.frozen 2; have hz7 : wr.heap.size < w7.heap.size := hy7.lt; have HJ7 := Lib.hid (HJD.out w7 HB7.out); clear hb7 hy7 d0 d1 d2) | (go_at_call 23; refine HJ7.out.mono ?_; rintro e w8 ⟨rfl, rfl⟩))
                  have hx8 : Blk (((w7.setCell ⟨w.heap.size, 0, none⟩ (.int .u8 k)).setCell ⟨w.heap.size, 1, none⟩ (.int .i64 v)).setCell ⟨w.heap.size, 2, none⟩ (.int .u64 0)) w.heap.size 40 #[.int .u8 k, .int .i64 v, .int .u64 0] := ((HX7.out.set_ 0 _).set_ 1 _).set_ 2 _
                  have s0 := hx8.cell 0
                  have s1 := hx8.cell 1
                  have s2 := hx8.cell 2
                  exact bodyPost_ret (v := .tuple #[.agg #[.int .u8 k, .int .i64 v, .int .u64 0], .bool true]) (by simp [results, Tryd.results14, go_sem, s0, s1, s2]) rfl ⟨⟨(k : Int), v, 0⟩, true, rfl, HY.out, ((HB7.out.setCell (p := ⟨w.heap.size, 0, none⟩) (by simp) _).setCell (p := ⟨w.heap.size, 1, none⟩) (by simp) _).setCell (p := ⟨w.heap.size, 2, none⟩) (by simp) _⟩
                · have hq : (LS.toList == JS.toList) = false := by rw [HLS.out, HJS.out, str_toList, str_toList]; simpa using hc
                  have HNN := Lib.hid (nones_snoc HNO.out (opD_bad HD.out (fun h => hc h.2)))
                  clear hc
                  go_wp2_with (first | (go_at_call 21; refine (HV.out _).mono ?_; rintro e w5 ⟨rfl, rfl⟩) | (go_at_call 24; refine HSY.out.mono ?_; rintro e w6 ⟨rfl, hb6⟩; have HB6 := Lib.hid (HWx.out.trans (hb6.mono HWx.out.size)); have HX6 := Lib.hid (HXx.out.below hb6 HXx.out.lt); have hy6 := HBx.out.below hb6 HBx.out.lt; have HY6 := Lib.hid hy6; have d0 := hy6.cell 0; have d1 := hy6.cell 1; have d2 := hy6.cell 2; have hz6 : wr.heap.size < w6.heap.size := hy6.lt; clear hb6 hy6) | (go_at_call 25; refine (HLN.out _).mono ?_; rintro e w7 ⟨rfl, hb7⟩; have HB7 := Lib.hid (HB6.out.trans (hb7.mono HB6.out.size)); have HX7 := Lib.hid (HX6.out.below hb7 HX6.out.lt); have hy7 := HY6.out.below hb7 HY6.out.lt; have e0 := hy7.cell 0; have e1 := hy7.cell 1; have e2 := hy7.cell 2; have f0 := HX7.out.cell 0; have f1 := HX7.out.cell 1; have f2 := HX7.out.cell 2; have r0 := HX7.out.frozen 0; have r1 := HX7.out.frozen 1; have r2 := HX7.out.frozen 2; have hz7 : wr.heap.size < w7.heap.size := hy7.lt; have HJ7 := Lib.hid (HJD.out w7 HB7.out); clear hb7 hy7 d0 d1 d2) | (go_at_call 23; refine HJ7.out.mono ?_; rintro e w8 ⟨rfl, rfl⟩))
                  go_roundw
                  case rel => exact ⟨k + 1, by omega, by omega, by go_num, HNN, HX7, HB7⟩
                  case measure => simp [intOf]; omega
      · have gn : ((n : Int) == 2) = false := by simp; omega
        have gn2 : (n == 2) = false := by simp; omega
        have HD : Hid (insD k ws = some ⟨(k : Int), 0, 0⟩) := Lib.hid (by
          unfold insD
          split
          · rename_i a b; exact absurd HN.out hn2
          · rfl)
        clear hn2
        have gk : decide ((k : Int) ≤ 32) = true := by simp; omega
        have HBx : Hid (Blk (wr.alloc (.cells #[.int .u8 k, .int .i64 0, .int .u64 0] 40)) wr.heap.size 40 #[.int .u8 k, .int .i64 0, .int .u64 0]) := Lib.hid (Blk.new wr _ _)
        have HWx : Hid (Below w.heap.size w (wr.alloc (.cells #[.int .u8 k, .int .i64 0, .int .u64 0] 40))) := Lib.hid (HW.out.alloc (by omega) _)
        have HXx : Hid (Blk (wr.alloc (.cells #[.int .u8 k, .int .i64 0, .int .u64 0] 40)) w.heap.size 40 #[.int .u8 0, .int .i64 0, .int .u64 0]) := Lib.hid (HXr.out.alloc _)
        have hzx : wr.heap.size < (wr.alloc (.cells #[.int .u8 k, .int .i64 0, .int .u64 0] 40)).heap.size := HBx.out.lt
        have HSY := Lib.hid (says_any ⟨(k : Int), 0, 0⟩ (wr.alloc (.cells #[.int .u8 k, .int .i64 0, .int .u64 0] 40)) ⟨by simp only; omega, by simp only; omega, by simp only; omega, by simp only; omega, by simp only; omega, by simp only; omega⟩)
        cases hok : okI ⟨(k : Int), 0, 0⟩ with
        | false =>
          have HNN := Lib.hid (nones_snoc HNO.out (opD_bad HD.out (fun h => by rw [hok] at h; cases h.1)))
          rw [hok] at HSY
          clear hok
          go_wp2_with (first | (go_at_call 24; refine HSY.out.mono ?_; rintro e w6 ⟨rfl, hb6⟩; have HB6 := Lib.hid (HWx.out.trans (hb6.mono HWx.out.size)); have HX6 := Lib.hid (HXx.out.below hb6 HXx.out.lt); clear hb6))
          go_roundw
          case rel => exact ⟨k + 1, by omega, by omega, by go_num, HNN, HX6, HB6⟩
          case measure => simp [intOf]; omega
        | true =>
          have HLN := Lib.hid (fun W : World => line_any ⟨(k : Int), 0, 0⟩ hok W)
          obtain ⟨LS, HLS⟩ : ∃ S, Hid (S = str (insW ⟨(k : Int), 0, 0⟩)) := ⟨_, rfl⟩
          rw [← HLS.out] at HLN
          have HOKI := Lib.hid hok
          rw [hok] at HSY
          clear hok
          by_cases hc : insW ⟨(k : Int), 0, 0⟩ = joinS ws
          · have hq : (LS.toList == JS.toList) = true := by rw [HLS.out, HJS.out, str_toList, str_toList]; simpa using hc
            have HY := Lib.hid (one_yes hk1 hlt HG.out (opD_good HD.out HOKI.out hc))
            clear hc
            go_wp2_with (first | (go_at_call 24; refine HSY.out.mono ?_; rintro e w6 ⟨rfl, hb6⟩; have HB6 := Lib.hid (HWx.out.trans (hb6.mono HWx.out.size)); have HX6 := Lib.hid (HXx.out.below hb6 HXx.out.lt); have hy6 := HBx.out.below hb6 HBx.out.lt; have HY6 := Lib.hid hy6; have d0 := hy6.cell 0; have d1 := hy6.cell 1; have d2 := hy6.cell 2; have hz6 : wr.heap.size < w6.heap.size := hy6.lt; clear hb6 hy6) | (go_at_call 25; refine (HLN.out _).mono ?_; rintro e w7 ⟨rfl, hb7⟩; have HB7 := Lib.hid (HB6.out.trans (hb7.mono HB6.out.size)); have HX7 := Lib.hid (HX6.out.below hb7 HX6.out.lt); have hy7 := HY6.out.below hb7 HY6.out.lt; have e0 := hy7.cell 0; have e1 := hy7.cell 1; have e2 := hy7.cell 2; have f0 := HX7.out.cell 0; have f1 := HX7.out.cell 1; have f2 := HX7.out.cell 2; have r0 := HX7.out.frozen 0; have r1 := HX7.out.frozen 1; have r2 := HX7.out.frozen 2; have hz7 : wr.heap.size < w7.heap.size := hy7.lt; have HJ7 := Lib.hid (HJD.out w7 HB7.out); clear hb7 hy7 d0 d1 d2) | (go_at_call 23; refine HJ7.out.mono ?_; rintro e w8 ⟨rfl, rfl⟩))
            have hx8 : Blk (((w7.setCell ⟨w.heap.size, 0, none⟩ (.int .u8 k)).setCell ⟨w.heap.size, 1, none⟩ (.int .i64 0)).setCell ⟨w.heap.size, 2, none⟩ (.int .u64 0)) w.heap.size 40 #[.int .u8 k, .int .i64 0, .int .u64 0] := ((HX7.out.set_ 0 _).set_ 1 _).set_ 2 _
            have s0 := hx8.cell 0
            have s1 := hx8.cell 1
            have s2 := hx8.cell 2
            exact bodyPost_ret (v := .tuple #[.agg #[.int .u8 k, .int .i64 0, .int .u64 0], .bool true]) (by simp [results, Tryd.results14, go_sem, s0, s1, s2]) rfl ⟨⟨(k : Int), 0, 0⟩, true, rfl, HY.out, ((HB7.out.setCell (p := ⟨w.heap.size, 0, none⟩) (by simp) _).setCell (p := ⟨w.heap.size, 1, none⟩) (by simp) _).setCell (p := ⟨w.heap.size, 2, none⟩) (by simp) _⟩
          · have hq : (LS.toList == JS.toList) = false := by rw [HLS.out, HJS.out, str_toList, str_toList]; simpa using hc
            have HNN := Lib.hid (nones_snoc HNO.out (opD_bad HD.out (fun h => hc h.2)))
            clear hc
            go_wp2_with (first | (go_at_call 24; refine HSY.out.mono ?_; rintro e w6 ⟨rfl, hb6⟩; have HB6 := Lib.hid (HWx.out.trans (hb6.mono HWx.out.size)); have HX6 := Lib.hid (HXx.out.below hb6 HXx.out.lt); have hy6 := HBx.out.below hb6 HBx.out.lt; have HY6 := Lib.hid hy6; have d0 := hy6.cell 0; have d1 := hy6.cell 1; have d2 := hy6.cell 2; have hz6 : wr.heap.size < w6.heap.size := hy6.lt; clear hb6 hy6) | (go_at_call 25; refine (HLN.out _).mono ?_; rintro e w7 ⟨rfl, hb7⟩; have HB7 := Lib.hid (HB6.out.trans (hb7.mono HB6.out.size)); have HX7 := Lib.hid (HX6.out.below hb7 HX6.out.lt); have hy7 := HY6.out.below hb7 HY6.out.lt; have e0 := hy7.cell 0; have e1 := hy7.cell 1; have e2 := hy7.cell 2; have f0 := HX7.out.cell 0; have f1 := HX7.out.cell 1; have f2 := HX7.out.cell 2; have r0 := HX7.out.frozen 0; have r1 := HX7.out.frozen 1; have r2 := HX7.out.frozen 2; have hz7 : wr.heap.size < w7.heap.size := hy7.lt; have HJ7 := Lib.hid (HJD.out w7 HB7.out); clear hb7 hy7 d0 d1 d2) | (go_at_call 23; refine HJ7.out.mono ?_; rintro e w8 ⟨rfl, rfl⟩))
            go_roundw
            case rel => exact ⟨k + 1, by omega, by omega, by go_num, HNN, HX7, HB7⟩
            case measure => simp [intOf]; omega
    · have gk : decide ((k : Int) ≤ 32) = false := by simp; omega
      have HY := Lib.hid (one_no ⟨0, 0, 0⟩ HG.out (fun op h1 h2 => HNO.out op h1 (by omega)))
      have f0 := HXr.out.cell 0
      have f1 := HXr.out.cell 1
      have f2 := HXr.out.cell 2
      have r0 := HXr.out.frozen 0
      have r1 := HXr.out.frozen 1
      have r2 := HXr.out.frozen 2
      have hx8 : Blk (((wr.setCell ⟨w.heap.size, 0, none⟩ (.int .u8 0)).setCell ⟨w.heap.size, 1, none⟩ (.int .i64 0)).setCell ⟨w.heap.size, 2, none⟩ (.int .u64 0)) w.heap.size 40 #[.int .u8 0, .int .i64 0, .int .u64 0] := ((HXr.out.set_ 0 _).set_ 1 _).set_ 2 _
      have s0 := hx8.cell 0
      have s1 := hx8.cell 1
      have s2 := hx8.cell 2
      go_wp2
      exact bodyPost_ret (v := .tuple #[.agg #[.int .u8 0, .int .i64 0, .int .u64 0], .bool false]) (by simp [results, Tryd.results14, go_sem, s0, s1, s2]) rfl ⟨⟨0, 0, 0⟩, false, rfl, HY.out, ((HW.out.setCell (p := ⟨w.heap.size, 0, none⟩) (by simp) _).setCell (p := ⟨w.heap.size, 1, none⟩) (by simp) _).setCell (p := ⟨w.heap.size, 2, none⟩) (by simp) _⟩
end Go.Proofs.YtbpobbadmbafaaaDoor
