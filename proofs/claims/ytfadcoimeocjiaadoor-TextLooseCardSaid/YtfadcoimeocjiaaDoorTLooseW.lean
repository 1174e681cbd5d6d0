/-
  The walk through TextLoose.
-/
import Derived.Test.YtfadcoimeocjiaaDoorTPre
import Derived.Test.YtfadcoimeocjiaaDoorTLoose
namespace Go.Proofs.YtfadcoimeocjiaaDoor
set_option linter.unusedVariables false
open Go.ChangeShapes Go.WideShapes Go.ChangeAt Go.RowKit

/-- the gap at a place -/
def gapG (gs : List Int) (i : Nat) : Nat := (gs.getD (i % gs.length) 0 % 3).toNat
theorem gap_nil (gs : List Int) (h : gs.length = 0) (i : Nat) : gapG gs i = 0 := by
  have : gs = [] := List.length_eq_zero_iff.1 h
  subst this
  rfl
theorem gap_at {gs : List Int} {i q : Nat} {x : Int} (hq : i % gs.length = q) (hx : gs[q]? = some x) : gapG gs i = (x % 3).toNat := by
  unfold gapG
  rw [hq, List.getD, hx]
  rfl
theorem looseG_snoc (g : Nat → Nat) {t : List UInt8} {k : Nat} {b : UInt8} (h : t[k]? = some b) : looseG g 0 (t.take (k + 1)) = looseG g 0 (t.take k) ++ looseB (g k) b := by
  have hk : k < t.length := (List.getElem?_eq_some_iff.1 h).1
  rw [take_snoc8 h, looseG_app, List.length_take, show min k t.length = k by omega, Nat.zero_add]
  simp [looseG]

set_option maxRecDepth 100000 in
set_option maxHeartbeats 16000000 in
theorem loose_walk (A : Option Addr) (n c : Nat) (rs : List Raw) (G : Option Addr) (gc : Nat) (gs : List Int) (w : World) (h : RdP w w.heap.size A n rs) (hg : Reads w w.heap.size 1 G gs.length (u8c gs)) (hgb : Byt gs) (hgm : gs.length ≤ 140737488351232) (hE : Env w.heap.size w) :
    Calls Tryd.prog 4 #[.agg #[.slice A n c], .slice G gs.length gc] w fun e w' => e = .returned (.bool true) ∧ Below w.heap.size w w' := by
  have HB0 : Hid (Below w.heap.size w (w.alloc (.cells #[.slice A n c] 25))) := Lib.hid ((Below.refl _ _).alloc (Nat.le_refl _) _)
  have HX0 : Hid (Blk (w.alloc (.cells #[.slice A n c] 25)) w.heap.size 25 #[.slice A n c]) := Lib.hid (Blk.new w _ _)
  obtain ⟨gn, HGN⟩ : ∃ gn, Hid (gn = gs.length) := ⟨_, rfl⟩
  rw [← HGN.out] at hg hgm ⊢
  have HG := Lib.hid hg
  have HGB := Lib.hid hgb
  have HP := Lib.hid h
  have HE := Lib.hid hE
  clear h hE hg hgb
  obtain ⟨S, hS⟩ : ∃ S, S = str (if okP (fns rs) then printT (fns rs) else []) := ⟨_, rfl⟩
  obtain ⟨pe, hpe⟩ : ∃ e : Int, e = if okP (fns rs) then 0 else 30 := ⟨_, rfl⟩
  have HS := Lib.hid hS
  have HPE := Lib.hid hpe
  clear hS hpe
  go_enter Tryd.func4, Tryd.ntmps4
  go_wp2_with (go_at_call 8; refine (first_any _ (HE.out.at_ HB0.out HB0.out.size)).mono ?_; rintro e w1 ⟨rfl, hb1⟩; refine Hid.out ?_)
  have hz1 : w.heap.size + 1 ≤ w1.heap.size := by have := hb1.size; simp at this; omega
  have HB1 := Lib.hid (HB0.out.trans (hb1.mono HB0.out.size))
  have HX1 := Lib.hid (HX0.out.below hb1 (by simp))
  have x1 : w1.cell? ⟨w.heap.size, 0, none⟩ = some (.slice A n c) := HX1.out.cell 0
  clear hb1
  refine Lib.hid ?_
  go_wp2_with (go_at_call 12; refine (print_S w.heap.size A n c rs S pe HS.out HPE.out _ (HP.out.below HB1.out) (by omega) (HE.out.at_ HB1.out (by omega))).mono ?_; rintro e w2 ⟨rfl, hb2⟩; refine Hid.out ?_)
  have hz2 : w1.heap.size ≤ w2.heap.size := hb2.size
  have HB2 := Lib.hid (HB1.out.trans (hb2.mono (by omega)))
  have HX2 := Lib.hid (HX1.out.below hb2 (by omega))
  clear hb2 x1
  cases hok : okP (fns rs) with
  | false =>
    have h1 : pe = 30 := by have := HPE.out; rw [hok] at this; simpa using this
    have h2 : S = str [] := by have := HS.out; rw [hok] at this; simpa using this
    subst h1
    have hs : (S.toList == []) = true := by rw [h2, str_toList]; rfl
    have hs2 : S.toList.isEmpty = true := by rw [h2, str_toList]; rfl
    clear h2 hok
    refine Lib.hid ?_
    go_wp2
    go_ret
    exact ⟨rfl, HB2.out⟩
  | true =>
    have h1 : pe = 0 := by have := HPE.out; rw [hok] at this; simpa using this
    have h2 : S = str (printT (fns rs)) := by have := HS.out; rw [hok] at this; simpa using this
    subst h1
    have hl := printT_len hok
    have hX : S.size ≤ 484755000 := by rw [h2, str_size]; exact hl
    have HLT : Hid ((looseG (gapG gs) 0 (printT (fns rs))).length ≤ 4294967296) := Lib.hid (by have := looseG_le (gapG gs) 0 (printT (fns rs)); omega)
    have HPT : Hid (parseT (looseG (gapG gs) 0 (printT (fns rs))) = .inl (fns rs)) := Lib.hid (loose_parse _ _ (okP_fns hok))
    obtain ⟨t, ht⟩ : ∃ t, t = printT (fns rs) := ⟨_, rfl⟩
    rw [← ht] at h2 HLT HPT
    have HSX := Lib.hid h2
    have HL : Hid (S.size = t.length) := Lib.hid (by rw [h2, str_size])
    have HBy : Hid (∀ (k : Nat) (h : k < S.size), t[k]? = some S[k] ∧ S.extract k (k + 1) = str [S[k]]) := Lib.hid (by
      intro k hk
      have e : t = S.data.toList := by rw [h2, str_list]
      have h3 : k < S.data.toList.length := by simpa using hk
      have h4 : t[k]? = some S[k] := by
        rw [e, List.getElem?_eq_getElem h3]
        rfl
      refine ⟨h4, ?_⟩
      conv => lhs; rw [h2]
      rw [str_extract, show k + 1 - k = 1 by omega]
      have hkt : k < t.length := (List.getElem?_eq_some_iff.1 h4).1
      rw [List.drop_eq_getElem_cons hkt]
      rw [List.getElem?_eq_getElem hkt] at h4
      rw [Option.some.inj h4]
      rfl)
    have hn := (okP_len hok).2
    rw [length_fns, HP.out.len] at hn
    clear hl hok h2 ht
    refine Lib.hid ?_
    go_wp2
    go_loopw [7, 8] (fun s i wr => ∃ k : Nat, k ≤ S.size ∧ i = .int .i64 k ∧ s = .string (str (looseG (gapG gs) 0 (t.take k))) ∧ Hid (Below w.heap.size w wr) ∧ Hid (Blk wr w.heap.size 25 #[.slice A n c])) (fun _ i _ => S.size - (intOf i).toNat)
    case atStart => exact ⟨0, by omega, rfl, rfl, HB2, HX2⟩
    case round =>
      clear HB2 HX2 HB1 HX1 HB0 HX0
      obtain ⟨k, hk, rfl, rfl, HW, HXr⟩ := hrel
      have hsz := HW.out.size
      by_cases hlt : k < S.size
      · obtain ⟨hb1, hb2⟩ := HBy.out k hlt
        have HQn := Lib.hid (looseG_snoc (gapG gs) hb1)
        have hql : (looseG (gapG gs) 0 (t.take k)).length ≤ 3878040000 := by
          have := looseG_le (gapG gs) 0 (t.take k)
          rw [List.length_take] at this
          omega
        obtain ⟨Q, HQ⟩ : ∃ Q, Hid (Q = str (looseG (gapG gs) 0 (t.take k))) := ⟨_, rfl⟩
        have hqs : Q.size ≤ 3878040000 := by rw [HQ.out, str_size]; exact hql
        rw [← HQ.out]
        obtain ⟨T1, hT1⟩ : ∃ T, S.extract k (k + 1) = T := ⟨_, rfl⟩
        have HT1 : Hid (T1 = str [S[k]]) := Lib.hid (by rw [← hT1, hb2])
        have hT1s : T1.size = 1 := by rw [HT1.out]; rfl
        clear hb1 hb2 hql
        have HK : ∀ (v : Nat) (b : UInt8) (T : ByteArray), gapG gs k = v → S[k] = b → T = str (looseB v b) → Hid (Q ++ T = str (looseG (gapG gs) 0 (t.take (k + 1)))) := fun v b T h1 h2 h3 => Lib.hid (by rw [HQn.out, h3, HQ.out, str_append, h1, h2])
        have HKh := Lib.hid HK
        clear HK
        by_cases hgz : gn = 0
        · have HGV := Lib.hid (gap_nil gs (HGN.out.symm.trans hgz) k)
          have hgd : decide ((0 : Int) < (gn : Int)) = false := by simp; omega
          have hgd2 : decide (0 < gn) = false := by simp; omega
          clear hgz
          by_cases h32 : S[k] = 32
          · have g1 : ((S[k].toNat : Int) == 32) = true := by rw [h32]; rfl
            have HR := HKh.out 0 32 ⟨#[32]⟩ HGV.out h32 rfl
            clear h32
            go_wp2
            go_roundw
            case rel => exact ⟨k + 1, by omega, by go_num, by rw [← HR.out], Lib.hid (by first | exact HW.out | exact HW.out.alloc (by omega) _), Lib.hid (by first | exact HXr.out | exact HXr.out.alloc _)⟩
            case measure => simp [intOf]; omega
          have g1 : ((S[k].toNat : Int) == 32) = false := by simp only [beq_eq_false_iff_ne, ne_eq]; intro e; exact h32 (UInt8.toNat_inj.1 (by simpa using (by omega : S[k].toNat = 32)))
          by_cases h10 : S[k] = 10
          · have g2 : ((S[k].toNat : Int) == 10) = true := by rw [h10]; rfl
            have HR := HKh.out 0 10 ⟨#[10]⟩ HGV.out h10 rfl
            clear h32 h10
            go_wp2
            go_roundw
            case rel => exact ⟨k + 1, by omega, by go_num, by rw [← HR.out], Lib.hid (by first | exact HW.out | exact HW.out.alloc (by omega) _), Lib.hid (by first | exact HXr.out | exact HXr.out.alloc _)⟩
            case measure => simp [intOf]; omega
          have g2 : ((S[k].toNat : Int) == 10) = false := by simp only [beq_eq_false_iff_ne, ne_eq]; intro e; exact h10 (UInt8.toNat_inj.1 (by simpa using (by omega : S[k].toNat = 10)))
          have HR := HKh.out 0 S[k] T1 HGV.out rfl (by rw [HT1.out]; unfold looseB; rw [if_neg h32, if_neg h10])
          clear h32 h10
          go_wp2
          go_roundw
          case rel => exact ⟨k + 1, by omega, by go_num, by rw [← HR.out], Lib.hid (by first | exact HW.out | exact HW.out.alloc (by omega) _), Lib.hid (by first | exact HXr.out | exact HXr.out.alloc _)⟩
          case measure => simp [intOf]; omega
        · have hgd : decide ((0 : Int) < (gn : Int)) = true := by simp; omega
          have hgd2 : ((gn : Int) == 0) = false := by simp; omega
          have hgd3 : decide (0 < gn) = true := by simp; omega
          have hgp : 0 < gn := by omega
          obtain ⟨q, hq, hqn⟩ : ∃ q, k % gn = q ∧ q < gn := ⟨k % gn, rfl, Nat.mod_lt _ hgp⟩
          have HQM : Hid (k % gs.length = q) := Lib.hid (by rw [← HGN.out]; exact hq)
          have hqz : (k : Int) % (gn : Int) = (q : Int) := by omega
          obtain ⟨b9, o9, x, rfl, hb9, HX9, cx⟩ := (HG.out.below HW.out).byte hqn
          obtain ⟨hx0, hx1⟩ := HGB.out x (List.mem_of_getElem? HX9.out)
          have HGV := Lib.hid (gap_at HQM.out HX9.out)
          clear hgz hq
          have hx3 : x % 3 = 0 ∨ x % 3 = 1 ∨ x % 3 = 2 := by omega
          rcases hx3 with hx3 | hx3 | hx3
          · have HGV2 : Hid (gapG gs k = 0) := Lib.hid (by rw [HGV.out, hx3]; rfl)
            by_cases h32 : S[k] = 32
            · have g1 : ((S[k].toNat : Int) == 32) = true := by rw [h32]; rfl
              have HR := HKh.out 0 32 ⟨#[32]⟩ HGV2.out h32 rfl
              clear h32
              go_wp2
              go_roundw
              case rel => exact ⟨k + 1, by omega, by go_num, by rw [← HR.out], Lib.hid (by first | exact HW.out | exact HW.out.alloc (by omega) _), Lib.hid (by first | exact HXr.out | exact HXr.out.alloc _)⟩
              case measure => simp [intOf]; omega
            have g1 : ((S[k].toNat : Int) == 32) = false := by simp only [beq_eq_false_iff_ne, ne_eq]; intro e; exact h32 (UInt8.toNat_inj.1 (by simpa using (by omega : S[k].toNat = 32)))
            by_cases h10 : S[k] = 10
            · have g2 : ((S[k].toNat : Int) == 10) = true := by rw [h10]; rfl
              have HR := HKh.out 0 10 ⟨#[10]⟩ HGV2.out h10 rfl
              clear h32 h10
              go_wp2
              go_roundw
              case rel => exact ⟨k + 1, by omega, by go_num, by rw [← HR.out], Lib.hid (by first | exact HW.out | exact HW.out.alloc (by omega) _), Lib.hid (by first | exact HXr.out | exact HXr.out.alloc _)⟩
              case measure => simp [intOf]; omega
            have g2 : ((S[k].toNat : Int) == 10) = false := by simp only [beq_eq_false_iff_ne, ne_eq]; intro e; exact h10 (UInt8.toNat_inj.1 (by simpa using (by omega : S[k].toNat = 10)))
            have HR := HKh.out 0 S[k] T1 HGV2.out rfl (by rw [HT1.out]; unfold looseB; rw [if_neg h32, if_neg h10])
            clear h32 h10
            go_wp2
            go_roundw
            case rel => exact ⟨k + 1, by omega, by go_num, by rw [← HR.out], Lib.hid (by first | exact HW.out | exact HW.out.alloc (by omega) _), Lib.hid (by first | exact HXr.out | exact HXr.out.alloc _)⟩
            case measure => simp [intOf]; omega
          · have HGV2 : Hid (gapG gs k = 1) := Lib.hid (by rw [HGV.out, hx3]; rfl)
            by_cases h32 : S[k] = 32
            · have g1 : ((S[k].toNat : Int) == 32) = true := by rw [h32]; rfl
              have HR := HKh.out 1 32 ⟨#[32, 32]⟩ HGV2.out h32 rfl
              clear h32
              go_wp2
              go_roundw
              case rel => exact ⟨k + 1, by omega, by go_num, by rw [← HR.out], Lib.hid (by first | exact HW.out | exact HW.out.alloc (by omega) _), Lib.hid (by first | exact HXr.out | exact HXr.out.alloc _)⟩
              case measure => simp [intOf]; omega
            have g1 : ((S[k].toNat : Int) == 32) = false := by simp only [beq_eq_false_iff_ne, ne_eq]; intro e; exact h32 (UInt8.toNat_inj.1 (by simpa using (by omega : S[k].toNat = 32)))
            by_cases h10 : S[k] = 10
            · have g2 : ((S[k].toNat : Int) == 10) = true := by rw [h10]; rfl
              have HR := HKh.out 1 10 ⟨#[32, 10, 10, 32, 32]⟩ HGV2.out h10 rfl
              clear h32 h10
              go_wp2
              go_roundw
              case rel => exact ⟨k + 1, by omega, by go_num, by rw [← HR.out], Lib.hid (by first | exact HW.out | exact HW.out.alloc (by omega) _), Lib.hid (by first | exact HXr.out | exact HXr.out.alloc _)⟩
              case measure => simp [intOf]; omega
            have g2 : ((S[k].toNat : Int) == 10) = false := by simp only [beq_eq_false_iff_ne, ne_eq]; intro e; exact h10 (UInt8.toNat_inj.1 (by simpa using (by omega : S[k].toNat = 10)))
            have HR := HKh.out 1 S[k] T1 HGV2.out rfl (by rw [HT1.out]; unfold looseB; rw [if_neg h32, if_neg h10])
            clear h32 h10
            go_wp2
            go_roundw
            case rel => exact ⟨k + 1, by omega, by go_num, by rw [← HR.out], Lib.hid (by first | exact HW.out | exact HW.out.alloc (by omega) _), Lib.hid (by first | exact HXr.out | exact HXr.out.alloc _)⟩
            case measure => simp [intOf]; omega
          · have HGV2 : Hid (gapG gs k = 2) := Lib.hid (by rw [HGV.out, hx3]; rfl)
            by_cases h32 : S[k] = 32
            · have g1 : ((S[k].toNat : Int) == 32) = true := by rw [h32]; rfl
              have HR := HKh.out 2 32 ⟨#[32, 32, 32, 32, 32]⟩ HGV2.out h32 rfl
              clear h32
              go_wp2
              go_roundw
              case rel => exact ⟨k + 1, by omega, by go_num, by rw [← HR.out], Lib.hid (by first | exact HW.out | exact HW.out.alloc (by omega) _), Lib.hid (by first | exact HXr.out | exact HXr.out.alloc _)⟩
              case measure => simp [intOf]; omega
            have g1 : ((S[k].toNat : Int) == 32) = false := by simp only [beq_eq_false_iff_ne, ne_eq]; intro e; exact h32 (UInt8.toNat_inj.1 (by simpa using (by omega : S[k].toNat = 32)))
            by_cases h10 : S[k] = 10
            · have g2 : ((S[k].toNat : Int) == 10) = true := by rw [h10]; rfl
              have HR := HKh.out 2 10 ⟨#[10, 35, 32, 102, 117, 110, 99, 10]⟩ HGV2.out h10 rfl
              clear h32 h10
              go_wp2
              go_roundw
              case rel => exact ⟨k + 1, by omega, by go_num, by rw [← HR.out], Lib.hid (by first | exact HW.out | exact HW.out.alloc (by omega) _), Lib.hid (by first | exact HXr.out | exact HXr.out.alloc _)⟩
              case measure => simp [intOf]; omega
            have g2 : ((S[k].toNat : Int) == 10) = false := by simp only [beq_eq_false_iff_ne, ne_eq]; intro e; exact h10 (UInt8.toNat_inj.1 (by simpa using (by omega : S[k].toNat = 10)))
            have HR := HKh.out 2 S[k] T1 HGV2.out rfl (by rw [HT1.out]; unfold looseB; rw [if_neg h32, if_neg h10])
            clear h32 h10
            go_wp2
            go_roundw
            case rel => exact ⟨k + 1, by omega, by go_num, by rw [← HR.out], Lib.hid (by first | exact HW.out | exact HW.out.alloc (by omega) _), Lib.hid (by first | exact HXr.out | exact HXr.out.alloc _)⟩
            case measure => simp [intOf]; omega
      · obtain rfl : k = S.size := by omega
        have htl : t.take S.size = t := List.take_of_length_le (by have := HL.out; omega)
        rw [htl]
        clear htl hlt
        have HBZ := HW
        obtain ⟨Z, HZ⟩ : ∃ Z, Hid (Z = str (looseG (gapG gs) 0 t)) := ⟨_, rfl⟩
        rw [← HZ.out]
        have HRp := Lib.hid (HP.out.below HW.out)
        have q0 : wr.cell? ⟨w.heap.size, 0, none⟩ = some (.slice A n c) := HXr.out.cell 0
        have HPY : Hid (Calls Tryd.prog 9 #[.string Z] wr fun e w' => ∃ (A7 : Option Addr) (n7 c7 : Nat) (xs : List Raw), fns xs = fns rs ∧ e = .returned (.tuple #[.agg #[.slice A7 n7 c7], .int .i64 0, .int .i64 0]) ∧ RdP w' w'.heap.size A7 n7 xs ∧ n7 ≤ c7 ∧ Below wr.heap.size wr w') := Lib.hid (by
          rw [HZ.out]
          exact parse_yes _ _ HPT.out HLT.out wr (HE.out.at_ HBZ.out (by omega)))
        go_wp2_with (go_at_call 9; refine HPY.out.mono ?_; rintro e w7 ⟨A7, n7, c7, xs, hx, rfl, hr7, hn7, hb7⟩; refine Hid.out ?_)
        have q7 : w7.cell? ⟨w.heap.size, 0, none⟩ = some (.slice A n c) := (HXr.out.below hb7 HXr.out.lt).cell 0
        have q7a : ∀ o : Obj, (w7.alloc o).cell? ⟨w.heap.size, 0, none⟩ = some (.slice A n c) := fun o => ((HXr.out.below hb7 HXr.out.lt).alloc o).cell 0
        have HR7 : Hid (∀ o : Obj, RdP (w7.alloc o) w7.heap.size A7 n7 xs) := Lib.hid fun o => hr7.alloc (Nat.le_refl _) o
        have HJ7 : Hid (∀ o : Obj, RdP (w7.alloc o) w7.heap.size A n rs) := Lib.hid fun o => (((HRp.out.more (by omega)).below hb7).more hb7.size).alloc (Nat.le_refl _) o
        have HEQ : Hid (decide (fns rs = fns xs) = true) := Lib.hid (by rw [hx]; simp)
        have HB7 : Hid (Below w.heap.size w w7) := Lib.hid (HBZ.out.trans (hb7.mono (by omega)))
        have hz7 : w.heap.size < w7.heap.size := by have := hb7.size; have := HXr.out.lt; omega
        clear hr7 hx hb7 q0
        refine Lib.hid ?_
        go_wp2_with (go_at_call 11; refine (rsame_any w7.heap.size _ _ _ _ _ _ _ _ _ (HJ7.out _) (HR7.out _) (by simp)).mono ?_; rintro e w8 ⟨rfl, hb8⟩; rw [HEQ.out]; have HB8 := Lib.hid ((HB7.out.alloc HB7.out.size _).trans (hb8.mono (by simp; omega))); clear hb8; refine Hid.out ?_)
        refine Lib.hid ?_
        go_wp2
        go_ret
        exact ⟨rfl, HB8.out⟩
end Go.Proofs.YtfadcoimeocjiaaDoor
