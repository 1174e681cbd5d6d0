/-
  The statements' own Read.
-/
import Derived.Test.YtklfppeecgkpnaaRefOut
import Derived.Test.YtklfppeecgkpnaaRefSame
import Derived.Deep.DeepCutAuto
import Derived.Deep.CutBlock
namespace Go.Proofs.Ytklfppeecgkpnaa
set_option linter.unusedVariables false
open Go.ChangeShapes Go.WideShapes Go.ChangeAt Go.RowKit

set_option maxRecDepth 100000 in
set_option maxHeartbeats 32000000 in
theorem read_any (A : Option Addr) (n c : Nat) (L : List Int) (w : World) (h : Reads w w.heap.size 1 A n (u8c L)) (hl : L.length = n) (hby : Byt L) (hn : n ≤ 140737488351232) :
    Calls Try.prog 11 #[.slice A n c] w (RrR w L) := by
  have HY := Lib.hid hby
  have HL := Lib.hid hl
  have HT0 : Hid (Tp ((w.alloc (.cells #[.slice none 0 0] 26)).alloc (.cells #[.slice A n c, .int .i64 0] 58)) w.heap.size (w.heap.size + 1) L (some L)) :=
    Lib.hid ⟨A, n, c, 0, blk_second w _ _ _ _, by omega, (h.alloc (Nat.le_refl _) _).alloc (by simp) _, hl, hn, hby, 0, rfl, Nat.zero_le _, rfl⟩
  have HR0 : Hid (Blk ((w.alloc (.cells #[.slice none 0 0] 26)).alloc (.cells #[.slice A n c, .int .i64 0] 58)) w.heap.size 26 #[.slice none 0 0]) := (Blk.new w _ _).alloc _
  have HB0 : Hid (Below w.heap.size w ((w.alloc (.cells #[.slice none 0 0] 26)).alloc (.cells #[.slice A n c, .int .i64 0] 58))) := ((Below.refl _ _).alloc (Nat.le_refl _) _).alloc (by simp) _
  obtain ⟨a1, HA1⟩ : ∃ x, Hid (x = (num 1 (some L)).1) := ⟨_, rfl⟩
  obtain ⟨s1, HS1⟩ : ∃ x, Hid (x = (num 1 (some L)).2) := ⟨_, rfl⟩
  obtain ⟨a2, HA2⟩ : ∃ x, Hid (x = (num 1 s1).1) := ⟨_, rfl⟩
  obtain ⟨s2, HS2⟩ : ∃ x, Hid (x = (num 1 s1).2) := ⟨_, rfl⟩
  obtain ⟨N, HN⟩ : ∃ x, Hid (x = (num 1 s2).1.toNat) := ⟨_, rfl⟩
  obtain ⟨s3, HS3⟩ : ∃ x, Hid (x = (num 1 s2).2) := ⟨_, rfl⟩
  have HH1 : Hid (a1 ≠ 87 → parse L = none) := Lib.hid (by rw [HA1.out]; exact prog_head L)
  have HH2 : Hid (a2 ≠ 76 → parse L = none) := Lib.hid (by rw [HA2.out, HS1.out]; exact prog_head2 L)
  have HPR : Hid (a1 = 87 → a2 = 76 → pProg (some L) = pFns N (need (decide (0 < (num 1 s2).1)) s3)) := Lib.hid (by
    intro e1 e2
    rw [HN.out, HS3.out, HS2.out, HS1.out]
    exact prog_rest L (by rw [← HA1.out]; exact e1) (by rw [← HS1.out, ← HA2.out]; exact e2))
  have hv := HT0.out.bd1
  rw [← HA1.out] at hv
  obtain ⟨hv0, hv1⟩ := hv
  clear h hl hby
  by_cases h87 : a1 = 87
  · go_enter Try.func11, Try.ntmps11
    have hhd : ∀ e w2, Tp2 w.heap.size (w.heap.size + 1) L w (num 1 s1).1 (num 1 s1).2 e w2 → True := fun _ _ _ => trivial
    go_wp2_with (go_at_call 22; first
      | (refine (next_any w.heap.size (w.heap.size + 1) 1 L (some L) _ HT0.out (by omega)).mono ?_; rintro e w1 ⟨rfl, h1, hg1⟩; rw [← HS1.out] at h1; rw [← HA1.out]
         have H1 := Lib.hid h1
         have hv2 := h1.bd1
         rw [← HA2.out] at hv2
         obtain ⟨hv20, hv21⟩ := hv2
         have HG1 := Lib.hid hg1
         clear h1 hg1)
      | (refine (next_any w.heap.size (w.heap.size + 1) 1 L s1 _ H1.out (by omega)).mono ?_; rintro e w2 ⟨rfl, h2, hg2⟩; rw [← HS2.out] at h2; rw [← HA2.out]; refine Hid.out ?_))
    have H2 := Lib.hid h2
    have HG2 := Lib.hid (grown_trans' HG1.out hg2)
    have HR2 := Lib.hid (HR0.out.only HG2.out (by omega))
    have HB2 : Hid (Below w.heap.size w w2) := Lib.hid (HB0.out.grown HG2.out HB0.out.size fun i hi => (by injection hi with hi; omega))
    clear h2 hg2
    by_cases h76 : a2 = 76
    · have HPR' := Lib.hid (HPR.out h87 h76)
      subst h87 h76
      refine Lib.hid ?_
      have hvn := H2.out.bd1
      have hNN : (num 1 s2).1 = (N : Int) := by rw [HN.out]; omega
      have hN255 : N ≤ 255 := by omega
      have HNN := Lib.hid hNN
      clear hvn hNN
      go_wp2_with (go_at_call 22; refine (next_any w.heap.size (w.heap.size + 1) 1 L s2 _ H2.out (by omega)).mono ?_; rintro e w3 ⟨rfl, h3, hg3⟩; rw [← HS3.out] at h3; rw [HNN.out]; refine Hid.out ?_)
      have HG3 := Lib.hid (grown_trans' HG2.out hg3)
      have hs3 : w.heap.size + 1 < w3.heap.size := h3.lt
      have hR3 := HR0.out.only HG3.out (by omega)
      have hB3 : Below w.heap.size w w3 := HB0.out.grown HG3.out HB0.out.size fun i hi => (by injection hi with hi; omega)
      obtain ⟨gT, hgT⟩ : ∃ g, g = w.heap.size + 1 := ⟨_, rfl⟩
      obtain ⟨gP, hgP⟩ : ∃ g, g = w3.heap.size := ⟨_, rfl⟩
      have HI0 : Hid (LrI w L gT gP (gP + 1) N s3 [] 0 none 0 s3 (w3.alloc (.cells #[.slice none 0 0] 26))) := by
        subst hgT hgP
        exact ⟨h3.alloc _, hR3.alloc _, Blk.new _ _ _, own_none _ _ _ _, rfl, (fun r hr => by cases hr), rfl, (fun _ => rfl), hB3.alloc hB3.size _, by omega, by omega, by omega, by simp⟩
      clear h3 hg3 hR3 hB3
      rw [← hgT]
      have HGT := Lib.hid hgT
      have HGP := Lib.hid hgP
      have HPZ : Hid (N = 0 → parse L = none) := Lib.hid (by
        intro h0
        refine parse_of L ?_
        rw [HPR'.out, HNN.out, h0]
        rfl)
      have HPP : Hid (0 < N → pProg (some L) = pFns N s3) := Lib.hid (by
        intro h0
        rw [HPR'.out, HNN.out, decide_eq_true (by omega), need_true])
      clear hgT hgP
      refine Lib.hid ?_
      go_wp2
      rw [← HGP.out]
      go_loopw [7] (fun kv wr => ∃ (k : Nat) (rs : List Raw) (A : Option Addr) (c : Nat) (s : St), kv = .int .u64 k ∧ k ≤ N ∧ Hid (LrI w L gT gP (gP + 1) N s3 rs k A c s wr)) (fun v _ => N - (intOf v).toNat)
      case atStart => exact ⟨0, [], none, 0, s3, rfl, Nat.zero_le _, HI0⟩
      case round =>
        clear HI0
        obtain ⟨k, rs, A1, c1, s, rfl, hkN, HI⟩ := hrel
        have r0 : wr.cell? ⟨w.heap.size, 0, none⟩ = some (.slice none 0 0) := HI.out.res.cell 0
        have rf := HI.out.res.frozen 0
        have p0 : wr.cell? ⟨gP, 0, none⟩ = some (.slice A1 k c1) := HI.out.blk.cell 0
        have HRN : Hid (parse L = none → RrR w L (.returned (.tuple #[.agg #[.slice none 0 0], .bool false])) (wr.setCell ⟨w.heap.size, 0, none⟩ (.slice none 0 0))) := Lib.hid fun hno => RrR.no hno (HI.out.below.setCell (p := ⟨w.heap.size, 0, none⟩) (Nat.le_refl _) _)
        cases s with
        | none =>
          have t1 : wr.cell? ⟨gT, 1, none⟩ = some (.int .i64 (-1)) := HI.out.tape.bad
          have HRF : Hid (RrR w L (.returned (.tuple #[.agg #[.slice none 0 0], .bool false])) (wr.setCell ⟨w.heap.size, 0, none⟩ (.slice none 0 0))) := Lib.hid (HRN.out (by
            rcases Nat.eq_zero_or_pos N with h0 | h0
            · exact HPZ.out h0
            · exact HI.out.short (HPP.out h0)))
          have hn0 : ((-1 : Int) == (n : Int)) = false := by simp
          have hn1 : ((-1 : Int) != (n : Int)) = true := by simp
          clear HRN
          by_cases hlt : k < N
          · have hN0 : ¬ N = 0 := by omega
            have hNa : ((N : Int) == 0) = false := by simpa using hN0
            have hNb : (N == 0) = false := by simpa using hN0
            go_wp2
            exact bodyPost_ret (v := .tuple #[.agg #[.slice none 0 0], .bool false]) (by simp [results, Try.results11, go_sem, r0]) rfl HRF.out
          · by_cases hN0 : N = 0
            · subst hN0
              go_wp2
              exact bodyPost_ret (v := .tuple #[.agg #[.slice none 0 0], .bool false]) (by simp [results, Try.results11, go_sem, r0]) rfl HRF.out
            · have hNa : ((N : Int) == 0) = false := by simpa using hN0
              have hNb : (N == 0) = false := by simpa using hN0
              go_wp2
              exact bodyPost_ret (v := .tuple #[.agg #[.slice none 0 0], .bool false]) (by simp [results, Try.results11, go_sem, r0]) rfl HRF.out
        | some l =>
          obtain ⟨j, t1, hj, hjl, hlj⟩ := HI.out.tape.good
          have HLJ := Lib.hid hlj
          rw [HL.out] at hjl
          clear hlj
          by_cases hlt : k < N
          · clear HRN HPZ
            have HPQ := Lib.hid (HPP.out (by omega))
            clear r0 rf p0
            obtain ⟨wo, hwo⟩ : ∃ x, x = wr := ⟨_, rfl⟩
            obtain ⟨gf, hgf⟩ : ∃ x, x = wr.heap.size := ⟨_, rfl⟩
            obtain ⟨a, HA⟩ : ∃ x, Hid (x = (num 1 (some l)).1) := ⟨_, rfl⟩
            obtain ⟨u1, HU1⟩ : ∃ x, Hid (x = (num 1 (some l)).2) := ⟨_, rfl⟩
            obtain ⟨b, HB⟩ : ∃ x, Hid (x = (num 1 u1).1.toNat) := ⟨_, rfl⟩
            obtain ⟨u2, HU2⟩ : ∃ x, Hid (x = (num 1 u1).2) := ⟨_, rfl⟩
            obtain ⟨ks, HK⟩ : ∃ x, Hid (x = (uKinds b u2).1) := ⟨_, rfl⟩
            obtain ⟨u3, HU3⟩ : ∃ x, Hid (x = (uKinds b u2).2) := ⟨_, rfl⟩
            obtain ⟨r, HRR⟩ : ∃ x, Hid (x = (num 1 u3).1) := ⟨_, rfl⟩
            obtain ⟨u4, HU4⟩ : ∃ x, Hid (x = (num 1 u3).2) := ⟨_, rfl⟩
            obtain ⟨q, HQ⟩ : ∃ x, Hid (x = (num 1 u4).1) := ⟨_, rfl⟩
            obtain ⟨u5, HU5⟩ : ∃ x, Hid (x = (num 1 u4).2) := ⟨_, rfl⟩
            obtain ⟨kp, HKP⟩ : ∃ x : Int, Hid (x = if q = 255 then -1 else q) := ⟨_, rfl⟩
            obtain ⟨m, HM⟩ : ∃ x, Hid (x = (num 2 u5).1.toNat) := ⟨_, rfl⟩
            obtain ⟨u6, HU6⟩ : ∃ x, Hid (x = (num 2 u5).2) := ⟨_, rfl⟩
            obtain ⟨is, HIS⟩ : ∃ x, Hid (x = (pInss m u6).1) := ⟨_, rfl⟩
            obtain ⟨u7, HU7⟩ : ∃ x, Hid (x = (pInss m u6).2) := ⟨_, rfl⟩
            have HUF : Hid (uFn (some l) = (⟨a, ks, decide (r = 1), kp, is⟩, u7)) := Lib.hid (by
              unfold uFn pKeep
              simp only
              rw [← HA.out, ← HU1.out, ← HB.out, ← HU2.out, ← HK.out, ← HU3.out, ← HRR.out, ← HU4.out, ← HQ.out, ← HU5.out, ← HKP.out, ← HM.out, ← HU6.out, ← HIS.out, ← HU7.out])
            have HUO : Hid (uOk (some l) = (ks.all kindB && (decide (r ≤ 1) && decide (a ≤ (num 1 u1).1)))) := Lib.hid (by
              unfold uOk
              simp only
              rw [← HA.out, ← HU1.out, ← HB.out, ← HU2.out, ← HK.out, ← HU3.out, ← HRR.out])
            have HF0 : Hid (FnI wo w.heap.size gT gf L 0 none 0 0 [] false 0 none 0 0 [] (some l) (wr.alloc (.cells #[.int .i64 0, .slice none 0 0, .bool false, .int .i64 0, .slice none 0 0] 43))) := Lib.hid (by subst hwo hgf; exact FnI.new HI.out.tape)
            have hv := HI.out.tape.bd1
            rw [← HA.out] at hv
            obtain ⟨ha0, ha1⟩ := hv
            have HIo : Hid (LrI w L gT gP (gP + 1) N s3 rs k A1 c1 (some l) wo) := Lib.hid (by rw [hwo]; exact HI.out)
            have HGF := Lib.hid hgf
            have HGO : Hid (gf = wo.heap.size) := Lib.hid (by rw [hgf, hwo])
            clear HI hwo hgf
            go_wp2_with (go_at_call 22; refine (next_any w.heap.size gT 1 L (some l) _ HF0.out.tape (by omega)).mono ?_; rintro e w4 ⟨rfl, h4, hg4⟩; rw [← HU1.out] at h4; rw [← HA.out]; refine Hid.out ?_)
            rw [← HGF.out]
            have hf4 := HF0.out.next h4 hg4
            have c0 : w4.cell? ⟨gf, 0, none⟩ = some (.int .i64 0) := hf4.blk.cell 0
            have f0 := hf4.blk.frozen 0
            have HF4 := Lib.hid (hf4.set0 a)
            have hv := h4.bd1
            have hbb : (num 1 u1).1 = (b : Int) := by rw [HB.out]; omega
            have HBB := Lib.hid hbb
            have hb255 : b ≤ 255 := by omega
            clear hf4 h4 hg4 hv hbb t1
            refine Lib.hid ?_
            go_wp2_with (go_at_call 22; refine (next_any w.heap.size gT 1 L u1 _ HF4.out.tape (by omega)).mono ?_; rintro e w5 ⟨rfl, h5, hg5⟩; rw [← HU2.out] at h5; rw [HBB.out]; refine Hid.out ?_)
            have HF5 := Lib.hid (HF4.out.next h5 hg5)
            have HKN : Hid (∀ x ∈ ks, 0 ≤ x) := Lib.hid (by rw [HK.out]; exact uKinds_nn b u2 h5.st)
            clear h5 hg5 c0 f0
            refine Lib.hid ?_
            go_wp2
            go_loopw [10] (fun iv wx => ∃ (j2 : Nat) (ks' : List Int) (s' : St) (A2 : Option Addr) (c2 : Nat), iv = .int .i64 j2 ∧ j2 ≤ b ∧ Hid (ks'.length = j2) ∧ Hid (uKinds b u2 = (ks' ++ (uKinds (b - j2) s').1, (uKinds (b - j2) s').2)) ∧ Hid (FnI wo w.heap.size gT gf L a A2 j2 c2 ks' false 0 none 0 0 [] s' wx)) (fun v _ => b - (intOf v).toNat)
            case atStart => exact ⟨0, [], u2, none, 0, rfl, Nat.zero_le _, rfl, rfl, HF5⟩
            case round =>
              clear HF5
              obtain ⟨j2, ks', s', A2, c2', rfl, hjb, HKL, HKE, HF⟩ := hrel
              by_cases hj2 : j2 < b
              · have c1a : wr.cell? ⟨gf, 1, none⟩ = some (.slice A2 j2 c2') := HF.out.blk.cell 1
                obtain ⟨x, HX⟩ : ∃ x, Hid (x = (num 1 s').1) := ⟨_, rfl⟩
                obtain ⟨v1, HV1⟩ : ∃ x, Hid (x = (num 1 s').2) := ⟨_, rfl⟩
                have hv := HF.out.tape.bd1
                rw [← HX.out] at hv
                obtain ⟨hx0, hx1⟩ := hv
                have hxw : IntKind.u8.wrap x = x := by rw [IntKind.wrap_u8]; omega
                have HXO : Hid (∀ u ∈ [Value.int .u8 x], u.oneCell' = true) := Lib.hid (by intro u hu; simp at hu; subst hu; rfl)
                go_wp2
                go_region_law (first
                  | (refine step_kind rfl _ _ rfl (gf + 1) (.slice A2 j2 c2') j2 (u8c ks') rfl HA7.out (w7.heap.size + 1) (some ⟨w7.heap.size, 0, none⟩) 1 1 [.int .u8 x] rfl (one_reads w7 44 [.int .u8 x] 1 rfl) HXO.out (by omega) (by simp; omega) ?_
                     intro v' w8 hown hgr hor
                     obtain ⟨A8, c8, rfl, c8', f8', hF8⟩ := HF7.out.kind hown hgr
                     clear hown hgr hor)
                  | (go_simp; go_at_call 22; refine (next_any w.heap.size gT 1 L s' wr.drew HF.out.tape (by omega)).mono ?_; rintro e w7 ⟨rfl, h7, hg7⟩; rw [← HX.out]; rw [← HV1.out] at h7
                     have hg7' := grown_of_drew hg7
                     have hf7 := HF.out.next h7 hg7'
                     have c7 : w7.cell? ⟨gf, 1, none⟩ = some (.slice A2 j2 c2') := hf7.blk.cell 1
                     have c7a : ∀ o : Obj, (w7.alloc o).cell? ⟨gf, 1, none⟩ = some (.slice A2 j2 c2') := fun o => (hf7.blk.alloc o).cell 1
                     have hz7 : gf < w7.heap.size := hf7.blk.lt
                     have HA7 := Lib.hid (hf7.locals.alloc (.cells #[.int .u8 x] 44))
                     have HF7 := Lib.hid hf7
                     clear h7 hg7 hg7' hf7
                     go_simp))
                all_goals
                  go_wp2
                  go_roundw
                  case rel =>
                    have he := HKE.out
                    rw [uKinds_step hj2, ← HX.out, ← HV1.out] at he
                    exact ⟨j2 + 1, ks' ++ [x], v1, A8, c8, by go_num, by omega, by show _ = _; rw [List.length_append, HKL.out]; rfl, by show _ = _; rw [he]; simp, hF8⟩
                  case measure => simp [intOf]; omega
              · obtain rfl : b = j2 := by omega
                have hke := HKE.out
                rw [Nat.sub_self] at hke
                obtain rfl : ks = ks' := by rw [HK.out, hke]; simp [uKinds]
                obtain rfl : u3 = s' := by rw [HU3.out, hke]; rfl
                clear hke hj2 hjb
                have hv := HF.out.tape.bd1
                rw [← HRR.out] at hv
                obtain ⟨hr0, hr1⟩ := hv
                go_wp2_with (go_at_call 22; refine (next_any w.heap.size gT 1 L u3 _ HF.out.tape (by omega)).mono ?_; rintro e w8 ⟨rfl, h8, hg8⟩; rw [← HU4.out] at h8; rw [← HRR.out]; refine Hid.out ?_)
                have hf8 := HF.out.next h8 hg8
                have c2 : w8.cell? ⟨gf, 2, none⟩ = some (.bool false) := hf8.blk.cell 2
                have f2 := hf8.blk.frozen 2
                have HF8 := Lib.hid (hf8.set2 (decide (r = 1)))
                have hv := h8.bd1
                rw [← HQ.out] at hv
                obtain ⟨hq0, hq1⟩ := hv
                clear hf8 h8 hg8
                refine Lib.hid ?_
                go_wp2_with (go_at_call 22; refine (next_any w.heap.size gT 1 L u4 _ HF8.out.tape (by omega)).mono ?_; rintro e w9 ⟨rfl, h9, hg9⟩; rw [← HU5.out] at h9; rw [← HQ.out]; refine Hid.out ?_)
                have hf9 := HF8.out.next h9 hg9
                have c3 : w9.cell? ⟨gf, 3, none⟩ = some (.int .i64 0) := hf9.blk.cell 3
                have f3 := hf9.blk.frozen 3
                have HF9 := Lib.hid hf9
                clear hf9 h9 hg9 c2 f2
                refine Lib.hid ?_
                go_upto_if 75 with fail
                go_cut [] (fun wx => Hid (FnI wo w.heap.size gT gf L a A2 b c2' ks (decide (r = 1)) kp none 0 0 [] u5 wx))
                case first =>
                  by_cases hq : q = 255
                  · have HK5 : Hid (kp = -1) := Lib.hid (by rw [HKP.out, if_pos hq])
                    subst hq
                    go_wp2
                    go_meet
                    case rel =>
                      rw [HK5.out]
                      exact (HF9.out.set3 _).set3 _
                  · have HK5 : Hid (kp = q) := Lib.hid (by rw [HKP.out, if_neg hq])
                    have hqa : (q == 255) = false := by simpa using hq
                    go_wp2
                    go_meet
                    case rel =>
                      rw [HK5.out]
                      exact HF9.out.set3 _
                case rest =>
                  have HFc := Lib.hid hcut.out
                  clear hcut HF9 c3 f3
                  have hv := HFc.out.tape.bd 2
                  simp only [Int.reducePow] at hv
                  have hmm : (num 2 u5).1 = (m : Int) := by rw [HM.out]; omega
                  have HMM := Lib.hid hmm
                  have hm65 : m ≤ 65535 := by omega
                  clear hv hmm
                  go_wp2_with (go_at_call 22; refine (next_any w.heap.size gT 2 L u5 _ HFc.out.tape (by omega)).mono ?_; rintro e w10 ⟨rfl, h10, hg10⟩; rw [← HU6.out] at h10; rw [HMM.out]; refine Hid.out ?_)
                  have HF10 := Lib.hid (HFc.out.next h10 hg10)
                  clear h10 hg10 HFc
                  refine Lib.hid ?_
                  go_upto_block 4 with fail
                  go_cut [] (fun wx => ∃ (A3 : Option Addr) (c3 : Nat), Hid (FnI wo w.heap.size gT gf L a A2 b c2' ks (decide (r = 1)) kp A3 is.length c3 is u7 wx))
                  case first =>
                    go_wp2
                    go_loopw [13] (fun iv wx => ∃ (j3 : Nat) (is' : List Ins) (s' : St) (A3 : Option Addr) (c3 : Nat), iv = .int .i64 j3 ∧ j3 ≤ m ∧ Hid (is'.length = j3) ∧ Hid (pInss m u6 = (is' ++ (pInss (m - j3) s').1, (pInss (m - j3) s').2)) ∧ Hid (FnI wo w.heap.size gT gf L a A2 b c2' ks (decide (r = 1)) kp A3 j3 c3 is' s' wx)) (fun v _ => m - (intOf v).toNat)
                    case atStart => exact ⟨0, [], u6, none, 0, rfl, Nat.zero_le _, rfl, rfl, HF10⟩
                    case round =>
                      clear HF HF8 HF10 HF4
                      obtain ⟨j3, is', s', A3, c3, rfl, hjm, HIL, HIE, HF⟩ := hrel
                      cases s' with
                      | none =>
                        have t1 : wr.cell? ⟨gT, 1, none⟩ = some (.int .i64 (-1)) := HF.out.tape.bad
                        have HEX : Hid (FnI wo w.heap.size gT gf L a A2 b c2' ks (decide (r = 1)) kp A3 is.length c3 is u7 wr) := Lib.hid (by
                          have := HIE.out
                          rw [pInss_none', List.append_nil] at this
                          rw [HIS.out, HU7.out, this]
                          show FnI wo w.heap.size gT gf L a A2 b c2' ks (decide (r = 1)) kp A3 is'.length c3 is' none wr
                          rw [HIL.out]
                          exact HF.out)
                        by_cases hj3 : j3 < m
                        · go_wp2
                          go_meet
                          case rel => exact ⟨A3, c3, HEX⟩
                        · go_wp2
                          go_meet
                          case rel => exact ⟨A3, c3, HEX⟩
                      | some l2 =>
                        obtain ⟨j4, t1, hj4, hjl4, hlj4⟩ := HF.out.tape.good
                        clear hjl4 hlj4
                        by_cases hj3 : j3 < m
                        · obtain ⟨o, HOO⟩ : ∃ x, Hid (x = (num 1 (some l2)).1) := ⟨_, rfl⟩
                          obtain ⟨v1, HV1⟩ : ∃ x, Hid (x = (num 1 (some l2)).2) := ⟨_, rfl⟩
                          have hv := HF.out.tape.bd1
                          rw [← HOO.out] at hv
                          obtain ⟨ho0, ho1⟩ := hv
                          have how : IntKind.u8.wrap o = o := by rw [IntKind.wrap_u8]; omega
                          go_wp2_with (go_at_call 22; refine (next_any w.heap.size gT 1 L (some l2) _ HF.out.tape (by omega)).mono ?_; rintro e w11 ⟨rfl, h11, hg11⟩; rw [← HV1.out] at h11; rw [← HOO.out]; refine Hid.out ?_)
                          have hf11 := HF.out.next h11 hg11
                          have HF11 := Lib.hid (hf11.alloc (.cells #[.int .u8 o, .int .i64 0, .int .u64 0] 48))
                          have HX11 := Lib.hid (Blk.new w11 48 #[.int .u8 o, .int .i64 0, .int .u64 0])
                          have HN1 : Hid ((Value.slice A2 b c2').ownBlock ≠ some w11.heap.size) := Lib.hid (fun e => by have := (own_block_le hf11.locals e).2; omega)
                          have HN2 : Hid ((Value.slice A3 j3 c3).ownBlock ≠ some w11.heap.size) := Lib.hid (fun e => by have := (own_block_le hf11.code e).2; omega)
                          have HGX : Hid (gf < w11.heap.size) := hf11.blk.lt
                          have hgx := HGX.out
                          have x0 : (w11.alloc (.cells #[.int .u8 o, .int .i64 0, .int .u64 0] 48)).cell? ⟨w11.heap.size, 0, none⟩ = some (.int .u8 o) := HX11.out.cell 0
                          clear hf11 h11 hg11 t1
                          cases hob : opB o with
                          | false =>
                            have HWD : Hid (widthD o = -1) := Lib.hid (by unfold widthD; rw [hob]; rfl)
                            have huf : (uFn (some l)).2 = none := by
                              rw [HUF.out]
                              show u7 = none
                              rw [HU7.out]
                              exact ins_no HIE.out hj3 (by rw [← HOO.out]; exact hob)
                            obtain ⟨r0, rf, HRF⟩ := HIo.out.early hlt (fn_none _ huf) HPQ.out HF11.out.grown
                            clear huf
                            refine Lib.hid ?_
                            go_wp2_with (go_at_call 23; refine (width_q o (-1) _ HWD.out).mono ?_; rintro e w11' ⟨rfl, rfl⟩)
                            exact bodyPost_ret (v := .tuple #[.agg #[.slice none 0 0], .bool false]) (by simp [results, Try.results11, go_sem, r0]) rfl HRF.out
                          | true =>
                            obtain ⟨wv, HWV⟩ : ∃ x : Nat, Hid (x = argW o + immW o) := ⟨_, rfl⟩
                            have HWD : Hid (widthD o = (wv : Int)) := Lib.hid (by unfold widthD; rw [hob, HWV.out]; rfl)
                            obtain ⟨ag, HAG⟩ : ∃ x, Hid (x = (num (argW o) v1).1) := ⟨_, rfl⟩
                            obtain ⟨v2, HV2⟩ : ∃ x, Hid (x = (num (argW o) v1).2) := ⟨_, rfl⟩
                            obtain ⟨im, HIM⟩ : ∃ x, Hid (x = (num (immW o) v2).1) := ⟨_, rfl⟩
                            obtain ⟨v3, HV3⟩ : ∃ x, Hid (x = (num (immW o) v2).2) := ⟨_, rfl⟩
                            have HPI : Hid (pIns (some l2) = (⟨o, ag, im⟩, v3)) := Lib.hid (by
                              rw [ins_yes (by rw [← HOO.out]; exact hob), ← HOO.out, ← HV1.out, ← HAG.out, ← HV2.out, ← HIM.out, ← HV3.out])
                            have hwv8 : wv ≤ 8 := by
                              rw [HWV.out]; unfold argW immW; split <;> (try split) <;> (try split) <;> omega
                            clear hob
                            refine Lib.hid ?_
                            go_upto_if 103 with (go_at_call 23; refine (width_q o wv _ HWD.out).mono ?_; rintro e w11' ⟨rfl, rfl⟩)
                            go_cut [15] (fun s15 wx => Hid (FnI wo w.heap.size gT gf L a A2 b c2' ks (decide (r = 1)) kp A3 j3 c3 is' v3 wx) ∧ Hid (Blk wx w11.heap.size 48 #[.int .u8 o, .int .i64 ag, .int .u64 im]))
                            case first =>
                              clear how
                              by_cases him : immW o = 8
                              · have hag0 : argW o = 0 := by
                                  unfold immW at him
                                  split at him
                                  · rename_i h1; unfold argW; rw [if_neg (by omega), if_neg (by omega)]
                                  · omega
                                have E8 : Hid (num 8 v1 = (im, v3)) := Lib.hid (by
                                  rw [HIM.out, HV3.out, him, HV2.out, hag0, num_zero])
                                have hg0 : ag = 0 := by rw [HAG.out, hag0, num_zero]
                                have hw8 : wv = 8 := by rw [HWV.out, hag0, him]
                                subst hg0
                                clear him hag0
                                go_wp2_with (go_at_call 22; refine (next_any w.heap.size gT 8 L v1 _ HF11.out.tape (by omega)).mono ?_; rintro e w14 ⟨rfl, h14, hg14⟩; rw [E8.out] at h14; rw [E8.out]; refine Hid.out ?_)
                                have hx14 := HX11.out.only hg14 (by have := HF11.out.lt; omega)
                                have x2 : w14.cell? ⟨w11.heap.size, 2, none⟩ = some (.int .u64 0) := hx14.cell 2
                                have xf := hx14.frozen 2
                                have HM1 := Lib.hid ((HF11.out.next h14 hg14).over (i := 2) hgx HN1.out HN2.out (.int .u64 im))
                                have HM2 := Lib.hid (hx14.set_ 2 (.int .u64 im))
                                clear hx14 h14 hg14
                                refine Lib.hid ?_
                                go_wp2
                                go_meet
                                case rel => exact ⟨HM1, HM2⟩
                              · have him0 : immW o = 0 := by unfold immW at him ⊢; split <;> simp_all
                                have E3 : Hid (v3 = v2) := Lib.hid (by rw [HV3.out, him0, num_zero])
                                have hi0 : im = 0 := by rw [HIM.out, him0, num_zero]
                                have hwa : wv = argW o := by rw [HWV.out, him0]; omega
                                have hw2 : wv ≤ 2 := by rw [hwa]; exact argW_le o
                                have E1 : Hid (num wv v1 = (ag, v3)) := Lib.hid (by rw [hwa, HAG.out, E3.out, HV2.out])
                                have hagb := HF11.out.tape.bd wv
                                rw [E1.out] at hagb
                                have hpw : (256 : Int) ^ wv ≤ 65536 := by
                                  obtain h | h | h : wv = 0 ∨ wv = 1 ∨ wv = 2 := by omega
                                  all_goals rw [h]; decide
                                have hag0 : 0 ≤ ag := hagb.1
                                have hag1 : ag ≤ 65535 := by have := hagb.2; simp only at this; omega
                                subst hi0
                                clear him him0 hwa hagb hpw
                                have hne8 : ¬ wv = 8 := by omega
                                by_cases hwz : wv = 0
                                · have E0 := E1.out
                                  rw [hwz, num_zero] at E0
                                  obtain rfl : ag = 0 := (congrArg Prod.fst E0).symm
                                  obtain rfl : v3 = v1 := (congrArg Prod.snd E0).symm
                                  clear E0
                                  go_wp2
                                  go_meet
                                  case rel => exact ⟨HF11, HX11⟩
                                · have hpos : 0 < wv := by omega
                                  go_wp2_with (go_at_call 22; refine (next_any w.heap.size gT wv L v1 _ HF11.out.tape (by omega)).mono ?_; rintro e w14 ⟨rfl, h14, hg14⟩; rw [E1.out] at h14; rw [E1.out]; refine Hid.out ?_)
                                  have hx14 := HX11.out.only hg14 (by have := HF11.out.lt; omega)
                                  have x1 : w14.cell? ⟨w11.heap.size, 1, none⟩ = some (.int .i64 0) := hx14.cell 1
                                  have xf := hx14.frozen 1
                                  have HM1 := Lib.hid ((HF11.out.next h14 hg14).over (i := 1) hgx HN1.out HN2.out (.int .i64 ag))
                                  have HM2 := Lib.hid (hx14.set_ 1 (.int .i64 ag))
                                  clear hx14 h14 hg14
                                  refine Lib.hid ?_
                                  go_wp2
                                  go_meet
                                  case rel => exact ⟨HM1, HM2⟩
                            case rest =>
                              obtain ⟨HF12, HX12⟩ := hcut
                              have x0' : wc.cell? ⟨w11.heap.size, 0, none⟩ = some (.int .u8 o) := HX12.out.cell 0
                              have x1' : wc.cell? ⟨w11.heap.size, 1, none⟩ = some (.int .i64 ag) := HX12.out.cell 1
                              have x2' : wc.cell? ⟨w11.heap.size, 2, none⟩ = some (.int .u64 im) := HX12.out.cell 2
                              have c4' : wc.cell? ⟨gf, 4, none⟩ = some (.slice A3 j3 c3) := HF12.out.blk.cell 4
                              have hgz : gf < wc.heap.size := HF12.out.blk.lt
                              have HOa := Lib.hid (HF12.out.code.alloc (.cells #[.int .u8 o, .int .i64 ag, .int .u64 im] 48))
                              have HRd := Lib.hid (one_reads wc 48 (insOne ⟨o, ag, im⟩) 3 rfl)
                              clear x0
                              go_wp2_with (at_builtin; refine app_ins rfl _ _ rfl (gf + 1) (.slice A3 j3 c3) j3 (insc is') rfl HOa.out (wc.heap.size + 1) (some ⟨wc.heap.size, 0, none⟩) 1 1 (insOne ⟨o, ag, im⟩) rfl HRd.out (insOne_one _) (by omega) (by simp; omega) ?_; intro v' w13 hown hgr hor; refine Hid.out ?_)
                              obtain ⟨A8, c8, rfl, c8', f8', hF8⟩ := HF12.out.ins hown hgr
                              clear hown hgr hor x0' x1' x2' c4'
                              refine Lib.hid ?_
                              go_wp2
                              go_roundw
                              case rel =>
                                have he := HIE.out
                                rw [pInss_step hj3, HPI.out] at he
                                exact ⟨j3 + 1, is' ++ [⟨o, ag, im⟩], v3, A8, c8, by go_num, by omega, by show _ = _; rw [List.length_append, HIL.out]; rfl, by show _ = _; rw [he]; simp, hF8⟩
                              case measure => simp [intOf]; omega
                        · obtain rfl : m = j3 := by omega
                          have HEX : Hid (FnI wo w.heap.size gT gf L a A2 b c2' ks (decide (r = 1)) kp A3 is.length c3 is u7 wr) := Lib.hid (by
                            have := HIE.out
                            rw [Nat.sub_self] at this
                            rw [HIS.out, HU7.out, this]
                            show FnI wo w.heap.size gT gf L a A2 b c2' ks (decide (r = 1)) kp A3 (is' ++ []).length c3 (is' ++ []) (some l2) wr
                            rw [List.append_nil, HIL.out]
                            exact HF.out)
                          go_wp2
                          go_meet
                          case rel => exact ⟨A3, c3, HEX⟩
                  case rest =>
                    clear HF HF8 HF10 HF4
                    obtain ⟨A3, c3, HFt⟩ := hcut
                    have c1t : wc.cell? ⟨gf, 1, none⟩ = some (.slice A2 b c2') := HFt.out.blk.cell 1
                    have c0t : wc.cell? ⟨gf, 0, none⟩ = some (.int .i64 a) := HFt.out.blk.cell 0
                    have HRk := Lib.hid (Reads.of_own HFt.out.locals)
                    go_upto_block 6 with fail
                    go_cut [] (fun wx => Hid (ks.all kindB = true) ∧ wc = wx)
                    case first =>
                      go_wp2
                      go_loopw [123] (fun iv wx => ∃ j5 : Nat, iv = .int .i64 j5 ∧ j5 ≤ b ∧ Hid (∀ y ∈ ks.take j5, kindB y = true) ∧ wc = wx) (fun v _ => b - (intOf v).toNat)
                      case atStart => exact ⟨0, rfl, Nat.zero_le _, Lib.hid (fun y hy => by simp at hy), rfl⟩
                      case round =>
                        obtain ⟨j5, rfl, hj5, HPK, rfl⟩ := hrel
                        by_cases hj5b : j5 < b
                        · obtain ⟨bb, off, x, hAA, hbB, HX, cx⟩ := HRk.out.byte hj5b
                          have hx0 := HKN.out x (List.mem_of_getElem? HX.out)
                          have c1x : wc.cell? ⟨gf, 1, none⟩ = some (.slice (some ⟨bb, off, none⟩) b c2') := by rw [← hAA]; exact c1t
                          by_cases hx1 : 1 < x
                          · have huo : uOk (some l) = false := by rw [HUO.out, all_no HX.out hx1]; rfl
                            obtain ⟨r0, rf, HRF⟩ := HIo.out.early hlt (fn_no _ huo) HPQ.out HFt.out.grown
                            clear huo
                            subst hAA
                            go_wp2
                            exact bodyPost_ret (v := .tuple #[.agg #[.slice none 0 0], .bool false]) (by simp [results, Try.results11, go_sem, r0]) rfl HRF.out
                          · have HPN := Lib.hid (take_more HX.out hx0 hx1 HPK.out)
                            subst hAA
                            go_wp2
                            go_roundw
                            case rel => exact ⟨j5 + 1, by go_num, by omega, HPN, by first | rfl | trivial⟩
                            case measure => simp [intOf]; omega
                        · obtain rfl : b = j5 := by omega
                          have HALL : Hid (ks.all kindB = true) := Lib.hid (List.all_eq_true.2 fun y hy => HPK.out y (by rw [List.take_of_length_le (by rw [HKL.out]; omega)]; exact hy))
                          go_wp2
                          go_meet
                          case rel => exact ⟨HALL, rfl⟩
                    case rest =>
                      obtain ⟨HALL, rfl⟩ := hcut
                      by_cases hrb : 1 < r
                      · have huo : uOk (some l) = false := by
                          rw [HUO.out, decide_eq_false (show ¬ r ≤ 1 by omega)]
                          simp
                        obtain ⟨r0, rf, HRF⟩ := HIo.out.early hlt (fn_no _ huo) HPQ.out HFt.out.grown
                        clear huo
                        go_wp2
                        exact bodyPost_ret (v := .tuple #[.agg #[.slice none 0 0], .bool false]) (by simp [results, Try.results11, go_sem, r0]) rfl HRF.out
                      · by_cases hab : (b : Int) < a
                        · have huo : uOk (some l) = false := by
                            rw [HUO.out, HBB.out, decide_eq_false (show ¬ a ≤ (b : Int) by omega)]
                            simp
                          obtain ⟨r0, rf, HRF⟩ := HIo.out.early hlt (fn_no _ huo) HPQ.out HFt.out.grown
                          clear huo
                          go_wp2
                          exact bodyPost_ret (v := .tuple #[.agg #[.slice none 0 0], .bool false]) (by simp [results, Try.results11, go_sem, r0]) rfl HRF.out
                        · have HUK : Hid (uOk (some l) = true) := Lib.hid (by
                            rw [HUO.out, HBB.out, HALL.out, decide_eq_true (show r ≤ 1 by omega), decide_eq_true (show a ≤ (b : Int) by omega)]
                            rfl)
                          obtain ⟨q1, q2, q3⟩ := HIo.out.after HFt.out.grown
                          have p0 : wc.cell? ⟨gP, 0, none⟩ = some (.slice A1 k c1) := q3.cell 0
                          have c2t : wc.cell? ⟨gf, 2, none⟩ = some (.bool (decide (r = 1))) := HFt.out.blk.cell 2
                          have c3t : wc.cell? ⟨gf, 3, none⟩ = some (.int .i64 kp) := HFt.out.blk.cell 3
                          have c4t : wc.cell? ⟨gf, 4, none⟩ = some (.slice A3 is.length c3) := HFt.out.blk.cell 4
                          have HBL := Lib.hid (show gP + 1 ≤ wc.heap.size by have := q3.lt; omega)
                          have hbl := HBL.out
                          have HOp := Lib.hid ((own_only HIo.out.own HFt.out.grown (by have := HIo.out.hP; omega)).alloc (.cells #[.int .i64 a, .slice A2 b c2', .bool (decide (r = 1)), .int .i64 kp, .slice A3 is.length c3] 43))
                          have HRd : Hid (Reads (wc.alloc (.cells #[.int .i64 a, .slice A2 b c2', .bool (decide (r = 1)), .int .i64 kp, .slice A3 is.length c3] 43)) (wc.heap.size + 1) 5 (some ⟨wc.heap.size, 0, none⟩) 1 (rawOne ⟨⟨a, ks, decide (r = 1), kp, is⟩, A2, c2', A3, c3⟩)) := Lib.hid (by
                            have := one_reads wc 43 (rawOne ⟨⟨a, ks, decide (r = 1), kp, is⟩, A2, c2', A3, c3⟩) 5 rfl
                            unfold rawOne at this ⊢
                            simp only [HKL.out] at this ⊢
                            exact this)
                          clear q1 q2 q3
                          go_wp2_with (at_builtin; refine app_fn rfl _ _ rfl (gP + 1) (.slice A1 k c1) k (rawc rs) rfl HOp.out (wc.heap.size + 1) (some ⟨wc.heap.size, 0, none⟩) 1 1 (rawOne ⟨⟨a, ks, decide (r = 1), kp, is⟩, A2, c2', A3, c3⟩) rfl HRd.out (rawOne_one _) (by omega) (by simp; omega) ?_; intro v' w12 hown hgr hor; refine Hid.out ?_)
                          have hft := HFt.out
                          rw [HGO.out] at hft
                          obtain ⟨A9, c9, rfl, p9, f9, HI9⟩ := HIo.out.step hlt hft HKL.out rfl HUF.out HUK.out hown hgr
                          clear hown hgr hor hft p0 c0t c1t c2t c3t c4t
                          refine Lib.hid ?_
                          go_wp2
                          go_roundw
                          case rel => exact ⟨k + 1, _, A9, c9, u7, by go_num, by omega, HI9⟩
                          case measure => simp [intOf]; omega
          · by_cases hN0 : N = 0
            · have HRF := Lib.hid (HRN.out (HPZ.out hN0))
              clear HRN
              subst hN0
              go_wp2
              exact bodyPost_ret (v := .tuple #[.agg #[.slice none 0 0], .bool false]) (by simp [results, Try.results11, go_sem, r0]) rfl HRF.out
            · have hNa : ((N : Int) == 0) = false := by simpa using hN0
              have hNb : (N == 0) = false := by simpa using hN0
              by_cases hjn : j = n
              · have hl0 : l = [] := by rw [HLJ.out, hjn]; exact List.drop_of_length_le (by rw [HL.out]; omega)
                subst hl0
                obtain ⟨hpa, hrd⟩ := HI.out.full hlt hkN hN255 (HPP.out (by omega)) HY.out
                have HRF : Hid (RrR w L (.returned (.tuple #[.agg #[.slice A1 k c1], .bool true])) (wr.setCell ⟨w.heap.size, 0, none⟩ (.slice A1 k c1))) := Lib.hid ⟨HI.out.below.setCell (p := ⟨w.heap.size, 0, none⟩) (Nat.le_refl _) _, .inr ⟨rs, k, A1, c1, hpa, rfl, hrd _⟩⟩
                clear HRN hpa hrd
                subst hjn
                go_wp2
                exact bodyPost_ret (v := .tuple #[.agg #[.slice A1 k c1], .bool true]) (by simp [results, Try.results11, go_sem, r0]) rfl HRF.out
              · obtain ⟨x, l', hl'⟩ : ∃ x l', l = x :: l' := by
                  rw [HLJ.out, List.drop_eq_getElem_cons (by rw [HL.out]; omega)]
                  exact ⟨_, _, rfl⟩
                subst hl'
                have HRF := Lib.hid (HRN.out (HI.out.more hlt hkN (HPP.out (by omega))))
                clear HRN
                have hja : (j == n) = false := by simpa using hjn
                have hjb : ((j : Int) == (n : Int)) = false := by simpa using (show ¬ ((j : Int) = (n : Int)) by omega)
                have hjc : (j != n) = true := by simpa using hjn
                go_wp2
                exact bodyPost_ret (v := .tuple #[.agg #[.slice none 0 0], .bool false]) (by simp [results, Try.results11, go_sem, r0]) rfl HRF.out
    · have HNO := Lib.hid (HH2.out h76)
      have hne : (a2 == 76) = false := by simpa using h76
      have r0 : w2.cell? ⟨w.heap.size, 0, none⟩ = some (.slice none 0 0) := HR2.out.cell 0
      have rf := HR2.out.frozen 0
      have HRF : Hid (RrR w L (.returned (.tuple #[.agg #[.slice none 0 0], .bool false])) (w2.setCell ⟨w.heap.size, 0, none⟩ (.slice none 0 0))) := RrR.no HNO.out (HB2.out.setCell (p := ⟨w.heap.size, 0, none⟩) (Nat.le_refl _) _)
      refine Lib.hid ?_
      go_wp2
      exact bodyPost_ret (v := .tuple #[.agg #[.slice none 0 0], .bool false]) (by simp [results, Try.results11, go_sem, r0]) rfl HRF.out
  · have HNO := Lib.hid (HH1.out h87)
    have hne : (a1 == 87) = false := by simpa using h87
    go_enter Try.func11, Try.ntmps11
    go_wp2_with (go_at_call 22; refine (next_any w.heap.size (w.heap.size + 1) 1 L (some L) _ HT0.out (by omega)).mono ?_; rintro e w1 ⟨rfl, h1, hg1⟩; rw [← HS1.out] at h1; rw [← HA1.out]; refine Hid.out ?_)
    have hR1 := HR0.out.only hg1 (by omega)
    have r0 : w1.cell? ⟨w.heap.size, 0, none⟩ = some (.slice none 0 0) := hR1.cell 0
    have rf := hR1.frozen 0
    have HB1 : Hid (Below w.heap.size w w1) := Lib.hid (HB0.out.grown hg1 HB0.out.size fun i hi => (by injection hi with hi; omega))
    have HRF : Hid (RrR w L (.returned (.tuple #[.agg #[.slice none 0 0], .bool false])) (w1.setCell ⟨w.heap.size, 0, none⟩ (.slice none 0 0))) := RrR.no HNO.out (HB1.out.setCell (p := ⟨w.heap.size, 0, none⟩) (Nat.le_refl _) _)
    clear h1 hg1 hR1
    refine Lib.hid ?_
    go_wp2
    exact bodyPost_ret (v := .tuple #[.agg #[.slice none 0 0], .bool false]) (by simp [results, Try.results11, go_sem, r0]) rfl HRF.out
end Go.Proofs.Ytklfppeecgkpnaa
