/-
  The statement's own walk: words shuffled in any way stand where they ought to.
-/
import Derived.Test.YtedmcfaghfgpoaaVShf
import Derived.Deep.DeepCutAuto
namespace Go.Proofs.Ytedmcfaghfgpoaa
set_option linter.unusedVariables false
set_option linter.unusedSimpArgs false
open Go.ChangeShapes Go.WideShapes Go.ChangeAt Go.RowKit

theorem del_lt {fs : List Mv} {c f : Int} (h : (c, f) ∈ fs) : (delL fs c).length + 1 ≤ fs.length :=
  List.length_filter_lt_length_iff_exists.2 ⟨(c, f), h, by simp⟩
theorem fill_len : ∀ (k : Nat) (st : Sx) (a : Int), (fillM k st a).1.length + (fillM k st a).2.length ≤ st.1.length + st.2.length
  | 0, _, _ => Nat.le_refl _
  | k + 1, st, a => by
    by_cases h1 : a ∈ valsL st.2
    · rw [fillM_stop (.inl h1)]; exact Nat.le_refl _
    · cases h2 : lookL st.2 a with
      | none => rw [fillM_stop (.inr h2)]; exact Nat.le_refl _
      | some f =>
        rw [fillM_go h1 h2]
        have := fill_len k (st.1 ++ [(a, f)], delL st.2 a) f
        have h3 := del_lt (look_some h2)
        simp only [List.length_append, List.length_cons, List.length_nil] at this
        omega
theorem one3_len (s : Int) (st : Sx) (m : Mv) : (one3 s st m).1.length + (one3 s st m).2.length ≤ st.1.length + st.2.length + 1 := by
  cases h2 : lookL st.2 m.1 with
  | none =>
    have e : one3 s st m = st := by unfold one3; rw [h2]
    rw [e]; omega
  | some f =>
    have e : one3 s st m = fillA (st.1 ++ [(s, f)], waitM st.2 m.1 s) f := by unfold one3; rw [h2]
    rw [e]
    have h3 := del_lt (look_some h2)
    have h4 := fill_len ((st.1 ++ [(s, f)], waitM st.2 m.1 s).2.length + 1) (st.1 ++ [(s, f)], waitM st.2 m.1 s) f
    unfold fillA
    unfold waitM at h4 ⊢
    simp only [List.length_append, List.length_cons, List.length_nil] at h4 ⊢
    omega
theorem fold2_len : ∀ (l : List Mv) (st : Sx), (l.foldl one2 st).1.length + (l.foldl one2 st).2.length ≤ st.1.length + st.2.length
  | [], _ => Nat.le_refl _
  | m :: l, st => by
    rw [List.foldl_cons]
    exact Nat.le_trans (fold2_len l (one2 st m)) (fill_len _ _ _)
theorem fold3_len (s : Int) : ∀ (l : List Mv) (st : Sx), (l.foldl (one3 s) st).1.length + (l.foldl (one3 s) st).2.length ≤ st.1.length + st.2.length + l.length
  | [], _ => Nat.le_refl _
  | m :: l, st => by
    rw [List.foldl_cons, List.length_cons]
    have h1 := fold3_len s l (one3 s st m)
    have h2 := one3_len s st m
    omega
theorem line_len (s : Int) (ms : List Mv) : (lineM s ms).length ≤ 2 * ms.length := by
  have h1 := fold3_len s ms (st2 ms ms)
  have h2 := fold2_len ms ([], fs1 ms)
  have h3 := fs1_len ms ms.length (Nat.le_refl _)
  rw [List.take_length] at h3
  have h4 : (fs1 ms).length ≤ ms.length := h3
  unfold lineM st3
  unfold st2 at h1 ⊢
  simp only [List.length_nil] at h2
  omega

set_option maxRecDepth 100000 in
set_option maxHeartbeats 25600000 in
theorem shuffle_walk (w : World) (A : Option Addr) (len cap : Nat) (xs : List Int) (hr : Reads w w.heap.size 1 A len (i64c xs)) :
    Calls Try.prog 3 #[.slice A len cap] w fun e w' => e = .returned (.bool true) ∧ Below w.heap.size w w' := by
  have HR := Lib.hid hr
  clear hr
  go_enter Try.func3, Try.ntmps3
  go_upto_region 3 with (go_at_call 4; refine (first_any w).mono ?_; rintro e w1 ⟨rfl, hb1⟩; have HB1 := Lib.hid hb1; clear hb1)
  go_cut [0, 3] (fun s0 s3 wx => ∃ n : Nat, s0 = .slice A len cap ∧ s3 = .int .i64 n ∧ n ≤ 30 ∧ n ≤ len ∧ Hid (Below w.heap.size w wx))
  case first =>
    go_wp2
    all_goals go_meet
    · exact ⟨30, rfl, rfl, by omega, by omega, HB1⟩
    · exact ⟨len, rfl, rfl, by omega, by omega, HB1⟩
  case rest =>
    obtain ⟨n, rfl, rfl, hn, hnl, HB⟩ := hcut
    clear HB1
    have hmk : ∀ W : World, (Instr.makeSlice 22 (.int .i64 ((n : Int) + 1)) (.int .i64 ((n : Int) + 1))).run Try.prog W = .ok (.slice (some ⟨W.heap.size, 0, none⟩) (n + 1) (n + 1)) (W.alloc (.cells (madeCells #[.int .i64 0] (n + 1)) 3)) := fun W => run_make_row' _ _ _ 8 Try.underlying22 info_int rfl .i64 .i64 (n + 1) (by omega) (by omega) W
    go_wp2
    obtain ⟨g, hg⟩ : ∃ g, g = wc.heap.size := ⟨_, rfl⟩
    rw [← hg]
    have HG := Lib.hid hg
    have H0 : Hid ((wc.alloc (.cells (madeCells #[.int .i64 0] (n + 1)) 3)).ownsRow (g + 1) 26 2 (.slice none 0 0) 0 (mvc (msI xs n 0)) ∧ WdI (wc.alloc (.cells (madeCells #[.int .i64 0] (n + 1)) 3)) g n (W0 n 0) ∧ Below w.heap.size w (wc.alloc (.cells (madeCells #[.int .i64 0] (n + 1)) 3))) := Lib.hid ⟨own_none _ _ _ _, by
      have h := WdI.made wc n
      rw [← hg] at h
      have e : W0 n 0 = fun _ => 0 := by funext q; unfold W0; rw [if_neg (by omega)]
      rw [e]; exact h, HB.out.alloc HB.out.size _⟩
    clear hg hmk
    have hgw : Hid (w.heap.size ≤ g) := Lib.hid (by rw [HG.out]; exact HB.out.size)
    go_loopw [4, 6] (fun s4 s6 wr => ∃ (i : Nat) (A1 : Option Addr) (c1 : Nat), s4 = .slice A1 i c1 ∧ s6 = .int .i64 i ∧ i ≤ n ∧ Hid (wr.ownsRow (g + 1) 26 2 (.slice A1 i c1) i (mvc (msI xs n i)) ∧ WdI wr g n (W0 n i) ∧ Below w.heap.size w wr)) (fun _ s _ => n - (intOf s).toNat)
    case atStart => exact ⟨0, none, 0, rfl, rfl, by omega, H0⟩
    case round =>
      clear H0
      obtain ⟨i, A1, c1, rfl, rfl, hi, HX⟩ := hrel
      by_cases hlt : i < n
      · obtain ⟨b, off, rfl, hb, hc⟩ := HR.out.lit (by omega) (by omega)
        have hil : i < xs.length := by have := HR.out.1; rw [length_i64c] at this; omega
        obtain ⟨x, hx⟩ : ∃ x, x = xs.getD i 0 := ⟨_, rfl⟩
        have hxi : xs[i]? = some x := by rw [hx, List.getD_eq_getElem?_getD, List.getElem?_eq_getElem hil]; rfl
        have x0 : wr.cell? ⟨b, off + i, none⟩ = some (.int .i64 x) := (HX.out.2.2.cell hb).trans (hc _ _ (i64c_at hxi))
        have hfr := frI_in xs (show 0 < n by omega) i
        obtain ⟨f, hf⟩ : ∃ f, f = frI xs n i := ⟨_, rfl⟩
        rw [← hf] at hfr
        have hf1 : (IntKind.u64.wrap x).tmod n = f := by rw [hf, hx]; rfl
        have hwn : IntKind.u64.wrap (n : Int) = n := by rw [IntKind.wrap_u64]; omega
        have hwf : IntKind.i64.wrap f = f := by rw [IntKind.wrap_i64]; omega
        have hn0 : ¬ (n : Int) = 0 := by omega
        have HF : Hid (mvc (msI xs n i) ++ mvOne ((i : Int), f) = mvc (msI xs n (i + 1))) := Lib.hid (by rw [msI_succ, mvc_append, hf]; simp [mvc])
        have HOA : Hid (∀ o, (wr.alloc o).ownsRow (g + 1) 26 2 (.slice A1 i c1) i (mvc (msI xs n i))) := Lib.hid fun o => HX.out.1.alloc o
        have hgs : g + 1 ≤ wr.heap.size := HX.out.2.1.lt
        have HO := Lib.hid HX.out.1
        have HW := Lib.hid HX.out.2.1
        have HBL := Lib.hid HX.out.2.2
        have HAP : Hid (∀ (o : Obj) (A' : Option Addr) (c' : Nat) (w1 : World), (wr.alloc o).grownBy w1 (Value.slice A1 i c1).ownBlock → w1.ownsRow (g + 1) 26 2 (.slice A' (i + 1) c') (i + 1) (mvc (msI xs n i) ++ mvOne ((i : Int), f)) →
            w1.frozen? ⟨g, i, none⟩ = false ∧ w1.cell? ⟨g, i, none⟩ = some (.int .i64 (W0 n i i)) ∧ (w1.setCell ⟨g, i, none⟩ (.int .i64 (1000 + (i : Int)))).ownsRow (g + 1) 26 2 (.slice A' (i + 1) c') (i + 1) (mvc (msI xs n (i + 1))) ∧
            WdI (w1.setCell ⟨g, i, none⟩ (.int .i64 (1000 + (i : Int)))) g n (W0 n (i + 1)) ∧ Below w.heap.size w (w1.setCell ⟨g, i, none⟩ (.int .i64 (1000 + (i : Int))))) := Lib.hid fun o A' c' w1 h1 h2 => by
          have hne : some g ≠ (Value.slice A1 i c1).ownBlock := fun e => by have := (own_block_le HO.out e.symm).1; omega
          have hw1 := (HW.out.alloc o).grown h1 hne
          have hcl := hw1.cell (show i ≤ n by omega)
          refine ⟨hcl.2, hcl.1, ?_, ?_, ?_⟩
          · rw [← HF.out]
            exact ownsRow_setCell_other h2 (fun e => by have := (own_block_le h2 e).1; simp at this; omega) _
          · have h3 := hw1.set (show i ≤ n by omega) (1000 + (i : Int))
            rw [W0_step] at h3
            exact h3
          · exact ((HBL.out.alloc HBL.out.size o).grown h1 (Nat.le_trans HBL.out.size (by simp)) (fun k hk => by have := (own_block_le HO.out hk).1; have := hgw.out; omega)).setCell hgw.out _
        clear hxi hx hil hc hf HX hfr
        go_wp2_with (first
          | (at_builtin; go_must (refine app_mv rfl _ _ rfl (g + 1) (.slice A1 i c1) i (mvc (msI xs n i)) rfl (HOA.out _) (wr.heap.size + 1) (some ⟨wr.heap.size, 0, none⟩) 1 1 (mvOne ((i : Int), f)) rfl (one_reads wr 26 (mvOne ((i : Int), f)) 2 rfl) (mvOne_one _) (by omega) (Nat.le_trans hgs (by simp)) ?_; intro v1 w1 o1 g1 _; obtain ⟨A2, c2, rfl⟩ := own_slice o1; obtain ⟨fz1, cx1, s1, s2, s3⟩ := HAP.out _ A2 c2 w1 g1 o1; have S1 := Lib.hid s1; have S2 := Lib.hid s2; have S3 := Lib.hid s3; clear g1 o1 s1 s2 s3))
          | go_in)
        go_roundw
        case rel => exact ⟨i + 1, A2, c2, rfl, by go_num, by omega, Lib.hid ⟨S1.out, S2.out, S3.out⟩⟩
        case measure => simp [intOf]; omega
      · obtain rfl : n = i := by omega
        have hok := msI_ok xs n (by omega)
        have HB2 : Hid (∀ p ∈ lineM n (msI xs n n), 0 ≤ p.1 ∧ p.1 ≤ n ∧ 0 ≤ p.2 ∧ p.2 ≤ n) := Lib.hid hok.line.2
        have HL := Lib.hid (line_any wr A1 n c1 (msI xs n n) n (Reads.of_own HX.out.1) (msI_len xs n n) (by omega) (hok.wide (by omega)))
        have HSH : Hid (∀ i, i < n → runL (W0 n n) (lineM n (msI xs n n)) i = 1000 + frI xs n i) := Lib.hid fun i hi => shuffled xs (by omega) hi
        obtain ⟨ln, hln⟩ : ∃ ln, ln = lineM n (msI xs n n) := ⟨_, rfl⟩
        rw [← hln] at HB2 HL HSH
        have hlt2 : ln.length ≤ 1000000 := by
          have h1 := line_len (n : Int) (msI xs n n)
          rw [msI_len, ← hln] at h1
          omega
        have HW := Lib.hid HX.out.2.1
        have HBL := Lib.hid HX.out.2.2
        obtain ⟨L, hL⟩ : ∃ L, L = ln.length := ⟨_, rfl⟩
        rw [← hL] at HL hlt2
        have HLL := Lib.hid hL
        clear hok HX hln hL
        go_upto_region 14 with (first
          | (go_at_call 5; refine HL.out.mono ?_; rintro e w2 ⟨⟨A3, c3, rfl, ho3⟩, hb3⟩; have H3 := Lib.hid (And.intro (own_more ho3 (show g + 1 ≤ wr.heap.size from HW.out.lt)) (And.intro (HW.out.on hb3 HW.out.lt) (HBL.out.trans (hb3.mono HBL.out.size)))); clear ho3 hb3)
          | go_in)
        go_wp2
        have H4 : Hid (w2.ownsRow (g + 1) 26 2 (.slice A3 L c3) L (mvc ln) ∧ WdI w2 g n (runL (W0 n n) (ln.take 0)) ∧ Below w.heap.size w w2) := H3
        clear H3 HL HW HBL
        go_loopw [54] (fun s wr => ∃ i : Nat, s = .int .i64 i ∧ i ≤ L ∧ Hid (wr.ownsRow (g + 1) 26 2 (.slice A3 L c3) L (mvc ln) ∧ WdI wr g n (runL (W0 n n) (ln.take i)) ∧ Below w.heap.size w wr)) (fun s _ => L - (intOf s).toNat)
        case atStart => exact ⟨0, rfl, by omega, H4⟩
        case round =>
          clear H4
          obtain ⟨i, rfl, hi, HX⟩ := hrel
          by_cases hlt : i < L
          · have hil : i < ln.length := by have := HLL.out; omega
            obtain ⟨m, hm⟩ : ∃ m, m = ln[i] := ⟨_, rfl⟩
            have hmi : ln[i]? = some m := by rw [List.getElem?_eq_getElem hil, hm]
            obtain ⟨b, off, rfl, hb, hc⟩ := (Reads.of_own HX.out.1).lit (by omega) (by omega)
            have hat := mvc_at hmi
            have hbd := HB2.out m (by rw [hm]; exact List.getElem_mem hil)
            have hst := runL_take (W := W0 n n) hil
            rw [← hm] at hst
            obtain ⟨m0, m1⟩ := m
            simp only at hat hbd
            obtain ⟨p, rfl⟩ : ∃ p : Nat, m0 = p := ⟨m0.toNat, by omega⟩
            obtain ⟨q, rfl⟩ : ∃ q : Nat, m1 = q := ⟨m1.toNat, by omega⟩
            have hp : p ≤ n := by omega
            have hq : q ≤ n := by omega
            have x0 : wr.cell? ⟨b, off + i * 2, none⟩ = some (.int .i64 p) := hc _ _ hat.1
            have x1 : wr.cell? ⟨b, off + (i * 2 + 1), none⟩ = some (.int .i64 q) := hc _ _ hat.2
            rw [← Nat.add_assoc] at x1
            obtain ⟨u, hu⟩ : ∃ u, u = runL (W0 n n) (ln.take i) q := ⟨_, rfl⟩
            have y0 : ∀ o, (wr.alloc o).cell? ⟨g, q, none⟩ = some (.int .i64 u) := fun o => by rw [hu]; exact ((HX.out.2.1.alloc o).cell hq).1
            have y1 : ∀ o, (wr.alloc o).cell? ⟨g, p, none⟩ = some (.int .i64 (runL (W0 n n) (ln.take i) p)) := fun o => ((HX.out.2.1.alloc o).cell hp).1
            have y2 : ∀ o, (wr.alloc o).frozen? ⟨g, p, none⟩ = false := fun o => ((HX.out.2.1.alloc o).cell hp).2
            have HST : Hid (∀ o, ((wr.alloc o).setCell ⟨g, p, none⟩ (.int .i64 u)).drew.ownsRow (g + 1) 26 2 (.slice (some ⟨b, off, none⟩) L c3) L (mvc ln) ∧ WdI ((wr.alloc o).setCell ⟨g, p, none⟩ (.int .i64 u)).drew g n (runL (W0 n n) (ln.take (i + 1))) ∧ Below w.heap.size w ((wr.alloc o).setCell ⟨g, p, none⟩ (.int .i64 u)).drew) := Lib.hid fun o => by
              refine ⟨?_, ?_, ?_⟩
              · exact ownsRow_setCell_other (HX.out.1.alloc o) (fun e => by have := (own_block_le HX.out.1 e).1; simp at this; omega) _
              · have h := (HX.out.2.1.alloc o).set hp u
                have e : step1 (runL (W0 n n) (ln.take i)) ((p : Int), (q : Int)) = fun r => if r = (p : Int) then u else runL (W0 n n) (ln.take i) r := by rw [hu]; rfl
                rw [hst, e]
                exact h.drew
              · exact ((HX.out.2.2.alloc HX.out.2.2.size o).setCell hgw.out _).drew
            clear hat hc hmi hm HX hbd hst hu hb hil
            go_wp2
            go_region
            all_goals
              go_wp2
              go_roundw
              case rel => exact ⟨i + 1, by go_num, by omega, Lib.hid (HST.out _)⟩
              case measure => simp [intOf]; omega
          · obtain rfl : L = i := by omega
            have HWD : Hid (WdI wr g n (runL (W0 n n) ln)) := Lib.hid (by
              have h := HX.out.2.1
              rw [HLL.out, List.take_length] at h
              exact h)
            have HBL := Lib.hid HX.out.2.2
            clear HX HB2
            obtain ⟨w7, hw7⟩ : ∃ x, x = wr := ⟨_, rfl⟩
            rw [← hw7] at HWD HBL ⊢
            clear hw7
            go_wp2
            go_loopw [11] (fun s wr => ∃ i : Nat, s = .int .i64 i ∧ i ≤ n ∧ Hid (WdI wr g n (runL (W0 n n) ln) ∧ Below w.heap.size w wr)) (fun s _ => n - (intOf s).toNat)
            case atStart => exact ⟨0, rfl, by omega, Lib.hid ⟨HWD.out, HBL.out⟩⟩
            case round =>
              clear HWD HBL
              obtain ⟨i, rfl, hi, HX⟩ := hrel
              by_cases hlt : i < n
              · obtain ⟨b, off, rfl, hb, hc⟩ := HR.out.lit (by omega) (by omega)
                have hil : i < xs.length := by have := HR.out.1; rw [length_i64c] at this; omega
                obtain ⟨x, hx⟩ : ∃ x, x = xs.getD i 0 := ⟨_, rfl⟩
                have hxi : xs[i]? = some x := by rw [hx, List.getD_eq_getElem?_getD, List.getElem?_eq_getElem hil]; rfl
                have x0 : wr.cell? ⟨b, off + i, none⟩ = some (.int .i64 x) := (HX.out.2.cell hb).trans (hc _ _ (i64c_at hxi))
                have hfr := frI_in xs (show 0 < n by omega) i
                have hsh := HSH.out i hlt
                obtain ⟨f, hf⟩ : ∃ f, f = frI xs n i := ⟨_, rfl⟩
                rw [← hf] at hfr hsh
                have x1 : wr.cell? ⟨g, i, none⟩ = some (.int .i64 (1000 + f)) := by rw [← hsh]; exact (HX.out.1.cell hi).1
                have hf1 : (IntKind.u64.wrap x).tmod n = f := by rw [hf, hx]; rfl
                have hwn : IntKind.u64.wrap (n : Int) = n := by rw [IntKind.wrap_u64]; omega
                have hwf : IntKind.i64.wrap f = f := by rw [IntKind.wrap_i64]; omega
                have hn0 : ¬ (n : Int) = 0 := by omega
                have HST : Hid (WdI wr.drew g n (runL (W0 n n) ln) ∧ Below w.heap.size w wr.drew) := Lib.hid ⟨HX.out.1.drew, HX.out.2.drew⟩
                clear hxi hx hil hc hf HX hsh
                go_wp2
                go_region
                all_goals
                  go_wp2
                  go_roundw
                  case rel => exact ⟨i + 1, by go_num, by omega, HST⟩
                  case measure => simp [intOf]; omega
              · obtain rfl : n = i := by omega
                have HF := Lib.hid HX.out.2
                clear HX
                go_wp2
                first | go_end0 | go_ret
                exact ⟨rfl, HF.out⟩
end Go.Proofs.Ytedmcfaghfgpoaa
