/-
  The document's Parse.
-/
import Derived.Test.YtbpobbadmbafaaaDoorTRefG
import Derived.Test.YtbpobbadmbafaaaDoorTAddI
namespace Go.Proofs.YtbpobbadmbafaaaDoor
set_option linter.unusedVariables false
open Go.ChangeShapes Go.WideShapes Go.ChangeAt Go.RowKit

/-- the lines so far, in p's box -/
structure RPI (t : List UInt8) (z : Nat) (w3 : World) (k : Nat) (W : World) (A : Option Addr) (n c : Nat) (rs : List Raw) : Prop where
  so : parseT t = parseLs k (fns rs) ((splitB 10 t).drop k)
  prog : Boxed W (z + 1) 25 (.slice A n c)
  po : PO W w3.heap.size k A n c rs
  keep : AddK (z + 1) w3.heap.size w3 W
section
variable {t l : List UInt8} {z k n c : Nat} {w3 W W' : World} {A : Option Addr} {rs : List Raw}
theorem rpi_below (h : RPI t z w3 k W A n c rs) (hz : z + 2 ≤ w3.heap.size) (hb : Below W.heap.size W W') : RPI t z w3 k W' A n c rs :=
  ⟨h.so, boxed_on h.prog hb, h.po.below hb, h.keep.trans (addK_below hb h.keep.1.size (by omega))⟩
theorem rpi_drop (hl : (splitB 10 t)[k]? = some l) : (splitB 10 t).drop k = l :: (splitB 10 t).drop (k + 1) := by
  obtain ⟨hk, he⟩ := List.getElem?_eq_some_iff.1 hl
  rw [List.drop_eq_getElem_cons hk, he]
theorem rpi_next {gs : List Fn} (h : RPI t z w3 k W A n c rs) (hl : (splitB 10 t)[k]? = some l) (ha : addL (fns rs) (wordsL l) = some gs) : parseT t = parseLs (k + 1) gs ((splitB 10 t).drop (k + 1)) := by
  rw [h.so, rpi_drop hl, parseLs, ha]
theorem rpi_bad (h : RPI t z w3 k W A n c rs) (hl : (splitB 10 t)[k]? = some l) (ha : addL (fns rs) (wordsL l) = none) : parseT t = .inr (k + 1) := by
  rw [h.so, rpi_drop hl, parseLs, ha]
theorem rpi_skip (h : RPI t z w3 k W A n c rs) (hl : (splitB 10 t)[k]? = some l) (ha : addL (fns rs) (wordsL l) = some (fns rs)) : RPI t z w3 (k + 1) W A n c rs :=
  ⟨rpi_next h hl ha, h.prog, h.po.more (by omega), h.keep⟩
theorem rpi_push {w8 : World} {r : Raw} {v' : Value} {o1 : Obj} (h : RPI t z w3 k W A n c rs) (hz : z + 2 ≤ w3.heap.size) (hof : OwnF W w3.heap.size r) (hw : WfF r.fn) (hco : r.co = none ∧ r.cc = 0 ∧ r.fn.code = [])
    (hown : w8.ownsRow w3.heap.size 36 5 v' (n + 1) (rawc rs ++ rawOne r)) (hg : (W.alloc o1).grownBy w8 (Value.slice A n c).ownBlock) (hl : (splitB 10 t)[k]? = some l) (ha : addL (fns rs) (wordsL l) = some (fns rs ++ [r.fn])) :
    ∃ A8 c8, v' = .slice A8 (n + 1) c8 ∧ w8.cell? ⟨z + 1, 0, none⟩ = some (.slice A n c) ∧ w8.frozen? ⟨z + 1, 0, none⟩ = false ∧ Hid (RPI t z w3 (k + 1) (w8.setCell ⟨z + 1, 0, none⟩ v') A8 (n + 1) c8 (rs ++ [r])) := by
  have hal : Below W.heap.size W (W.alloc o1) := (Below.refl _ W).alloc (Nat.le_refl _) _
  have ha6 := rpi_below h hz hal
  have hs6 := ha6.keep.1.size
  have hof6 : OwnF (W.alloc o1) w3.heap.size r := ⟨own_al hof.locals _, own_al hof.code _⟩
  obtain ⟨A8, c8, rfl, hp8⟩ := ha6.po.push hof6 hw hco hown hg
  have hk8 : AddK (z + 1) w3.heap.size (W.alloc o1) w8 := AddK.grown ha6.po.row hg hs6 (by omega)
  have hB8 : Boxed w8 (z + 1) 25 (.slice A n c) := ha6.prog.kept hg fun e => by have := own_lt ha6.po.row e.symm; omega
  have hk9 : AddK (z + 1) w3.heap.size w8 (w8.setCell ⟨z + 1, 0, none⟩ (.slice A8 (n + 1) c8)) := AddK.set w8 _ _ (.inl rfl) (by omega)
  refine ⟨A8, c8, rfl, hB8.cell, hB8.frozen, Lib.hid ⟨?_, hB8.set _, hp8.kept fun i hi _ => Below.heap_setCell w8 ⟨z + 1, 0, none⟩ _ i (by simp; omega), (ha6.keep.trans hk8).trans hk9⟩⟩
  rw [rpi_next h hl ha, fns_append]
  rfl
theorem rpi_grow {w8 : World} {a : List Raw} {r : Raw} {v' : Value} {o1 : Obj} {i : Ins} {g j : Nat} (h : RPI t z w3 k W (some ⟨g, 0, none⟩) n c (a ++ [r])) (hj : a.length = j) (hz : z + 2 ≤ w3.heap.size) (hk : k ≤ 4294967296) (hi : WfI i)
    (hown : w8.ownsRow w3.heap.size 40 3 v' (r.fn.code.length + 1) (insc r.fn.code ++ insOne i)) (hg : (W.alloc o1).grownBy w8 (codeV r).ownBlock) (hor : v'.ownBlock = (codeV r).ownBlock ∨ v'.ownBlock = some (W.alloc o1).heap.size) (hl : (splitB 10 t)[k]? = some l) (ha : addL (fns (a ++ [r])) (wordsL l) = some (addI (fns (a ++ [r])) i)) :
    ∃ co cc, v' = .slice co (r.fn.code.length + 1) cc ∧ w8.cell? ⟨g, j * 5 + 4, none⟩ = some (.slice r.co r.fn.code.length r.cc) ∧ w8.frozen? ⟨g, j * 5 + 4, none⟩ = false ∧ w8.cell? ⟨z + 1, 0, none⟩ = some (.slice (some ⟨g, 0, none⟩) n c) ∧ Hid (RPI t z w3 (k + 1) (w8.setCell ⟨g, j * 5 + 4, none⟩ v') (some ⟨g, 0, none⟩) n c (a ++ [addR r i co cc])) := by
  subst hj
  have hal : Below W.heap.size W (W.alloc o1) := (Below.refl _ W).alloc (Nat.le_refl _) _
  have ha6 := rpi_below h hz hal
  have hs6 := ha6.keep.1.size
  have hrr : r ∈ a ++ [r] := by simp
  have hk8 : AddK (z + 1) w3.heap.size (W.alloc o1) w8 := AddK.grown (ha6.po.each r hrr).code hg hs6 (by omega)
  obtain ⟨g', hg', hgb, hgl, hn, hnc, hcell, hfro⟩ := last_cell ha6.po
  obtain rfl : g = g' := by injection hg' with hg'; injection hg'
  obtain ⟨co, cc, rfl, hp9, hbg⟩ := ha6.po.grow hi hk rfl hown hg hor
  have hB8 : Boxed w8 (z + 1) 25 (.slice (some ⟨g, 0, none⟩) n c) := ha6.prog.kept hg fun e => by have := own_lt (ha6.po.each r hrr).code e.symm; omega
  have hk9 : AddK (z + 1) w3.heap.size w8 (w8.setCell ⟨g, a.length * 5 + 4, none⟩ (.slice co (r.fn.code.length + 1) cc)) := AddK.set w8 _ _ (.inr hgb) (by omega)
  refine ⟨co, cc, rfl, (World.cell?_of_block hbg).trans hcell, ?_, hB8.cell, Lib.hid ⟨?_, ?_, hp9, (ha6.keep.trans hk8).trans hk9⟩⟩
  · have : w8.frozen? ⟨g, a.length * 5 + 4, none⟩ = (W.alloc o1).frozen? ⟨g, a.length * 5 + 4, none⟩ := by unfold World.frozen?; rw [hbg]
    rw [this]; exact hfro
  · rw [rpi_next h hl ha, fns_last]
  · exact hB8.kept (grownBy_setCell_any w8 ⟨g, a.length * 5 + 4, none⟩ _) (fun e => by have h : z + 1 = g := by { injection e }; omega)
end
/-- what the document's Parse answers -/
def RParsePost (t : List UInt8) (w : World) (e : Ending) (w' : World) : Prop := Below w.heap.size w w' ∧
  ((∃ (A : Option Addr) (n c : Nat) (rs : List Raw), parseT t = .inl (fns rs) ∧ e = .returned (.tuple #[.agg #[.slice A n c], .int .i64 0]) ∧ RdP w' w'.heap.size A n rs) ∨
    (∃ k : Nat, parseT t = .inr (k + 1) ∧ e = .returned (.tuple #[.agg #[.slice none 0 0], .int .i64 ((k : Int) + 1)])))
theorem hash_byte (y : UInt8) : (((y.toNat : Int) == 35) = decide (y = 35)) := by
  rw [Bool.eq_iff_iff]
  simp only [beq_iff_eq, decide_eq_true_iff]
  exact ⟨fun e => UInt8.toNat_inj.1 (by simpa using (by omega : y.toNat = 35)), fun e => by rw [e]; rfl⟩
theorem str_zero (y : UInt8) (ys : List UInt8) : ∃ h : 0 < (str (y :: ys)).size, (str (y :: ys))[0] = y := ⟨by rw [str_size]; simp, rfl⟩

set_option maxRecDepth 100000 in
set_option maxHeartbeats 16000000 in
theorem rparse_any (t : List UInt8) (ht : t.length ≤ 1048576) (w : World) : Calls Tryd.prog 6 #[.string (str t)] w (RParsePost t w) := by
  have hsl : (splitB 10 t).length ≤ 1048577 := by rw [splitB_length]; have := List.count_le_length (a := (10 : UInt8)) (l := t); omega
  have HSP := Lib.hid (fun W => rsplit_any 10 t (by omega) W)
  have HLL : Hid (∀ l ∈ splitB 10 t, l.length ≤ 1048576) := Lib.hid (fun l hl => by have := (splitB_mem hl).2; omega)
  obtain ⟨X, HX⟩ : ∃ X, Hid (X = str t) := ⟨_, Lib.hid rfl⟩
  rw [← HX.out] at HSP ⊢
  have h10 : ((10 : UInt8).toNat : Int) = 10 := rfl
  rw [h10] at HSP
  clear h10
  obtain ⟨ns, HNS⟩ : ∃ n, Hid (n = (splitB 10 t).length) := ⟨_, Lib.hid rfl⟩
  rw [← HNS.out] at hsl
  have HX0 : Hid (Blk ((w.alloc (.cells #[.slice none 0 0] 25)).alloc (.cells #[.slice none 0 0] 25)) w.heap.size 25 #[.slice none 0 0]) := Lib.hid ((Blk.new w _ _).alloc _)
  have HY0 : Hid (Blk ((w.alloc (.cells #[.slice none 0 0] 25)).alloc (.cells #[.slice none 0 0] 25)) (w.heap.size + 1) 25 #[.slice none 0 0]) := Lib.hid (blk_second w _ _ _ _)
  have HB0 : Hid (Below w.heap.size w ((w.alloc (.cells #[.slice none 0 0] 25)).alloc (.cells #[.slice none 0 0] 25))) := Lib.hid (((Below.refl _ _).alloc (Nat.le_refl _) _).alloc (by simp) _)
  go_enter Tryd.func6, Tryd.ntmps6
  go_wp2_with (go_at_call 11; refine (HSP.out _).mono ?_; rintro e w3 ⟨v3, rfl, ho3, hb3⟩; rw [← HNS.out] at ho3; obtain ⟨A3, c3, rfl⟩ := own_slice ho3; refine Hid.out ?_)
  have hs0 : ((w.alloc (.cells #[.slice none 0 0] 25)).alloc (.cells #[.slice none 0 0] 25)).heap.size = w.heap.size + 2 := by simp
  rw [hs0] at ho3 hb3
  have HO3 := Lib.hid ho3
  have HB3 := Lib.hid (HB0.out.trans (hb3.mono (by omega)))
  have HX3 := Lib.hid (HX0.out.below hb3 (by omega))
  have HY3 := Lib.hid (HY0.out.below hb3 (by omega))
  have hz3 : w.heap.size + 2 ≤ w3.heap.size := by have := hb3.size; rw [hs0] at this; exact this
  have HI0 : Hid (RPI t w.heap.size w3 0 w3 none 0 0 []) := Lib.hid ⟨by rw [List.drop_zero]; rfl, HY3.out, PO.nil _ _ _, AddK.refl _ _ _⟩
  clear ho3 hb3 hs0 HX0 HY0 HB0 HY3 HSP
  refine Lib.hid ?_
  go_wp2
  go_loopw [16] (fun i wr => ∃ k : Nat, k ≤ ns ∧ i = .int .i64 k ∧ ∃ (A : Option Addr) (n c : Nat) (rs : List Raw), Hid (RPI t w.heap.size w3 k wr A n c rs)) (fun i _ => ns - (intOf i).toNat)
  case atStart => exact ⟨0, by omega, rfl, none, 0, 0, [], HI0⟩
  case round =>
    clear HI0
    obtain ⟨k, hk, rfl, A, n, c, rs, HI⟩ := hrel
    have hzr : w3.heap.size ≤ wr.heap.size := HI.out.keep.1.size
    have HXr := Lib.hid (HX3.out.below HI.out.keep.2.2 (by omega))
    have HW := Lib.hid (HB3.out.trans (HI.out.keep.2.2.mono (by omega)))
    have hnk := HI.out.po.lim.1
    by_cases hlt : k < ns
    · obtain ⟨b3, o3, l, rfl, hbb, HXL, cx⟩ := (Reads.of_own (own_kept (w' := wr) HO3.out fun i hi => HI.out.keep.2.1 i (by have := (own_block_le HO3.out hi).2; omega) (by have := (own_block_le HO3.out hi).1; omega))).str hlt
      have hll := HLL.out l (List.mem_of_getElem? HXL.out)
      obtain ⟨Zl, HZl⟩ : ∃ Z, Hid (Z = str l) := ⟨_, Lib.hid rfl⟩
      rw [← HZl.out] at cx
      have HWD := Lib.hid (rwords_any l (by omega) wr)
      rw [← HZl.out] at HWD
      obtain ⟨ws, hws⟩ : ∃ ws, wordsL l = ws := ⟨_, rfl⟩
      have HWS := Lib.hid hws
      have HGW : Hid (GoodW ws) := Lib.hid (hws ▸ good_words l)
      have hsum := words_sum l
      rw [hws] at hsum
      have HSUM := Lib.hid hsum
      have HWL : Hid (∀ x ∈ ws, x.length ≤ 1048576) := Lib.hid (fun x hx => by rw [← hws] at hx; have := (wordsL_mem hx).2.2; omega)
      obtain ⟨nw, HNW⟩ : ∃ n, Hid (n = ws.length) := ⟨_, Lib.hid rfl⟩
      have hnw : nw ≤ 1048576 := by rw [HNW.out]; omega
      have HLN := Lib.hid hll
      clear hws hsum hll
      go_wp2_with (go_at_call 12; refine HWD.out.mono ?_; rintro e w4 ⟨v4, rfl, ho4, hb4⟩; rw [HWS.out, ← HNW.out] at ho4; obtain ⟨A4, c4, rfl⟩ := own_slice ho4; refine Hid.out ?_)
      have hz4 : wr.heap.size ≤ w4.heap.size := hb4.size
      have HR4 := Lib.hid (Reads.of_own ho4)
      have HI4 := Lib.hid (rpi_below HI.out hz3 hb4)
      have HW4 := Lib.hid (HW.out.trans (hb4.mono (by omega)))
      have HX4 := Lib.hid (HXr.out.below hb4 (by omega))
      clear ho4 hb4 cx HWD
      match ws, HWS, HGW, HSUM, HWL, HNW, HR4 with
      | [], HWS, HGW, HSUM, HWL, HNW, HR4 =>
        obtain rfl : nw = 0 := HNW.out
        have HIn := Lib.hid (rpi_skip HI4.out HXL.out (by rw [HWS.out]; rfl))
        refine Lib.hid ?_
        go_wp2
        go_roundw
        case rel => exact ⟨k + 1, by omega, by go_num, A, n, c, rs, HIn⟩
        case measure => simp [intOf]; omega
      | [] :: rest, HWS, HGW, HSUM, HWL, HNW, HR4 => exact absurd rfl (HGW.out [] (by simp)).2
      | (y :: ys) :: rest, HWS, HGW, HSUM, HWL, HNW, HR4 =>
        have hnw1 : 1 ≤ nw := by rw [HNW.out]; simp
        have gn0 : ((nw : Int) == 0) = false := by simp; omega
        have gn0' : (nw == 0) = false := by simp; omega
        obtain ⟨b4, o4, hA4, hb4, hcells⟩ := HR4.out.lit (by omega) (by omega)
        subst hA4
        obtain ⟨Z0, HZ0⟩ : ∃ Z, Hid (Z = str (y :: ys)) := ⟨_, Lib.hid rfl⟩
        have c0 : w4.cell? ⟨b4, o4, none⟩ = some (.string Z0) := by rw [HZ0.out]; exact hcells 0 _ rfl
        have hz0 : 0 < Z0.size := by rw [HZ0.out, str_size]; simp
        have HY0 : Hid (Z0[0] = y) := Lib.hid (by
          have : ∀ Z : ByteArray, Z = str (y :: ys) → ∀ h : 0 < Z.size, Z[0] = y := by rintro Z rfl h; rfl
          exact this Z0 HZ0.out hz0)
        clear hcells
        by_cases hy : y = 35
        · have gy : ((Z0[0].toNat : Int) == 35) = true := by rw [HY0.out, hy]; rfl
          have HIn := Lib.hid (rpi_skip HI4.out HXL.out (by rw [HWS.out, addL, if_pos (by rw [hy]; rfl)]))
          clear hy
          refine Lib.hid ?_
          go_wp2
          go_roundw
          case rel => exact ⟨k + 1, by omega, by go_num, A, n, c, rs, HIn⟩
          case measure => simp [intOf]; omega
        · have gy : ((Z0[0].toNat : Int) == 35) = false := by rw [HY0.out, hash_byte]; simpa using hy
          have hhd : ¬ (y :: ys).head? = some 35 := by simpa using hy
          by_cases hf : y :: ys = funcW
          · have gf : (Z0.toList == [102, 117, 110, 99]) = true := by rw [HZ0.out, str_toList, hf]; rfl
            have HBG : Hid (Calls Tryd.prog 13 #[.slice (some ⟨b4, o4, none⟩) nw c4] w4 (BegPost ((y :: ys) :: rest) w4)) := Lib.hid (by
              have h := begin_any w4.heap.size (some ⟨b4, o4, none⟩) c4 ((y :: ys) :: rest) w4 (by rw [← HNW.out]; exact HR4.out) (Nat.le_refl _) HGW.out (by rw [← HNW.out]; omega) (fun x hx => by have := HWL.out x hx; omega) (by have := HSUM.out.2.1; have := HLN.out; omega)
              rw [← HNW.out] at h
              exact h)
            have HF0 := Lib.hid hf
            have HHD := Lib.hid hhd
            clear hy hhd hf
            refine Lib.hid ?_
            go_wp2_with (go_at_call 13; refine HBG.out.mono ?_; rintro e w5 ⟨r, ok, rfl, hfn, hco, how, hwf, hb5⟩; refine Hid.out ?_)
            obtain ⟨⟨p, ls, fl, kp, is⟩, lo, lc, co, cc⟩ := r
            simp only at hco how hwf
            obtain ⟨rfl, rfl, rfl⟩ := hco
            have hz5 : w4.heap.size ≤ w5.heap.size := hb5.size
            have HI5 := Lib.hid (rpi_below HI4.out hz3 hb5)
            have HW5 := Lib.hid (HW4.out.trans (hb5.mono (by omega)))
            have HX5 := Lib.hid (HX4.out.below hb5 (by omega))
            have hfn2 := hfn rest (by rw [HF0.out])
            have HOW := Lib.hid how
            have HWF := Lib.hid hwf
            clear hb5 hfn how hwf c0
            cases ok with
            | false =>
              have HBAD : Hid (parseT t = .inr (k + 1)) := Lib.hid (rpi_bad HI5.out HXL.out (by rw [HWS.out, addL, if_neg HHD.out, if_pos HF0.out, hfn2]; rfl))
              clear hfn2
              have hx5 := HX5.out
              have f0 := hx5.cell 0
              have r0 := hx5.frozen 0
              have f0a : ∀ o : Obj, (w5.alloc o).cell? ⟨w.heap.size, 0, none⟩ = some (.slice none 0 0) := fun o => (hx5.alloc o).cell 0
              have r0a : ∀ o : Obj, (w5.alloc o).frozen? ⟨w.heap.size, 0, none⟩ = false := fun o => (hx5.alloc o).frozen 0
              have HX8 : Hid (Blk ((w5.alloc (.cells #[.int .i64 p, .slice lo ls.length lc, .bool fl, .int .i64 kp, .slice none 0 0] 36)).setCell ⟨w.heap.size, 0, none⟩ (.slice none 0 0)) w.heap.size 25 #[.slice none 0 0]) := Lib.hid ((hx5.alloc _).set_ 0 _)
              have HRT : Hid (RParsePost t w (.returned (.tuple #[.agg #[.slice none 0 0], .int .i64 ((k : Int) + 1)])) ((w5.alloc (.cells #[.int .i64 p, .slice lo ls.length lc, .bool fl, .int .i64 kp, .slice none 0 0] 36)).setCell ⟨w.heap.size, 0, none⟩ (.slice none 0 0))) := Lib.hid ⟨(HW5.out.alloc (by omega) _).setCell (p := ⟨w.heap.size, 0, none⟩) (by simp) _, .inr ⟨k, HBAD.out, rfl⟩⟩
              clear hx5
              refine Lib.hid ?_
              go_wp2
              have s0 := HX8.out.cell 0
              exact bodyPost_ret (v := .tuple #[.agg #[.slice none 0 0], .int .i64 ((k : Int) + 1)]) (by simp [results, Tryd.results6, go_sem, s0]) rfl HRT.out
            | true =>
              have HADD : Hid (addL (fns rs) (wordsL l) = some (fns rs ++ [⟨p, ls, fl, kp, []⟩])) := Lib.hid (by rw [HWS.out, addL, if_neg HHD.out, if_pos HF0.out, hfn2]; rfl)
              have HI6 := Lib.hid (rpi_below HI5.out hz3 ((Below.refl _ _).alloc (Nat.le_refl _) (.cells #[.int .i64 p, .slice lo ls.length lc, .bool fl, .int .i64 kp, .slice none 0 0] 36)))
              have cp := HI6.out.prog.cell
              have HOA := Lib.hid (own_al HI6.out.po.row (.cells #[.int .i64 p, .slice lo ls.length lc, .bool fl, .int .i64 kp, .slice none 0 0] 36))
              have HRd := Lib.hid (reads_two w5 36 36 #[.int .i64 p, .slice lo ls.length lc, .bool fl, .int .i64 kp, .slice none 0 0] (fnCells p lo ls.length lc fl kp) 5 rfl)
              have cpa : ∀ o1 o2 : Obj, ((w5.alloc o1).alloc o2).cell? ⟨w.heap.size + 1, 0, none⟩ = some (.slice A n c) := fun o1 o2 => (boxed_on HI5.out.prog (((Below.refl _ _).alloc (Nat.le_refl _) o1).alloc (by simp) o2)).cell
              have HOF : Hid (OwnF (w5.alloc (.cells #[.int .i64 p, .slice lo ls.length lc, .bool fl, .int .i64 kp, .slice none 0 0] 36)) w3.heap.size ⟨⟨p, ls, fl, kp, []⟩, lo, lc, none, 0⟩) := Lib.hid ⟨own_al (own_more HOW.out (by omega)) _, own_none _ _ _ _⟩
              have hz5' : w.heap.size + 1 < w5.heap.size := by omega
              clear hfn2
              refine Lib.hid ?_
              go_wp2_with (at_builtin; refine app_fn rfl _ _ rfl w3.heap.size (.slice A n c) n (rawc rs) rfl HOA.out (w5.heap.size + 2) (some ⟨w5.heap.size + 1, 0, none⟩) 1 1 (fnCells p lo ls.length lc fl kp) rfl HRd.out (fnCells_one _ _ _ _ _ _) (by omega) (by simp; omega) ?_; intro v' w8 hown hgr _; obtain ⟨A8, c8, rfl, cp8, fp8, HF8⟩ := rpi_push (r := ⟨⟨p, ls, fl, kp, []⟩, lo, lc, none, 0⟩) HI6.out hz3 HOF.out HWF.out ⟨rfl, rfl, rfl⟩ hown hgr HXL.out HADD.out; clear hown hgr; refine Hid.out ?_)
              clear cp cpa
              refine Lib.hid ?_
              go_wp2
              go_roundw
              case rel => exact ⟨k + 1, by omega, by go_num, A8, n + 1, c8, _, HF8⟩
              case measure => simp [intOf]; omega
          · have gf : (Z0.toList == [102, 117, 110, 99]) = false := by rw [HZ0.out, str_toList]; simpa [funcW] using hf
            have HON : Hid (Calls Tryd.prog 14 #[.slice (some ⟨b4, o4, none⟩) nw c4] w4 (OnePost ((y :: ys) :: rest) w4)) := Lib.hid (by
              have h := one_any w4.heap.size (some ⟨b4, o4, none⟩) c4 ((y :: ys) :: rest) w4 (by rw [← HNW.out]; exact HR4.out) (Nat.le_refl _) HGW.out (by rw [← HNW.out]; omega) (fun x hx => by have := HWL.out x hx; omega) (by have := HSUM.out.2.1; have := HLN.out; omega)
              rw [← HNW.out] at h
              exact h)
            have HF0 := Lib.hid hf
            have HHD := Lib.hid hhd
            clear hy hhd hf
            refine Lib.hid ?_
            go_wp2_with (go_at_call 14; refine HON.out.mono ?_; rintro e w5 ⟨i, ok, rfl, hin, hb5⟩; refine Hid.out ?_)
            have hz5 : w4.heap.size ≤ w5.heap.size := hb5.size
            have HI5 := Lib.hid (rpi_below HI4.out hz3 hb5)
            have HW5 := Lib.hid (HW4.out.trans (hb5.mono (by omega)))
            have HX5 := Lib.hid (HX4.out.below hb5 (by omega))
            have hin2 := hin _ _ rfl
            have hz5' : w.heap.size + 1 < w5.heap.size := by omega
            have cpa : ∀ o1 : Obj, (w5.alloc o1).cell? ⟨w.heap.size + 1, 0, none⟩ = some (.slice A n c) := fun o1 => (boxed_on HI5.out.prog ((Below.refl _ _).alloc (Nat.le_refl _) o1)).cell
            clear hb5 hin c0
            cases ok with
            | false =>
              have HBAD : Hid (parseT t = .inr (k + 1)) := Lib.hid (rpi_bad HI5.out HXL.out (by
                rw [HWS.out, addL, if_neg HHD.out, if_neg HF0.out, hin2]
                split <;> rfl))
              clear hin2
              have hx5 := HX5.out
              have f0 := hx5.cell 0
              have r0 := hx5.frozen 0
              have f0a : ∀ o : Obj, (w5.alloc o).cell? ⟨w.heap.size, 0, none⟩ = some (.slice none 0 0) := fun o => (hx5.alloc o).cell 0
              have r0a : ∀ o : Obj, (w5.alloc o).frozen? ⟨w.heap.size, 0, none⟩ = false := fun o => (hx5.alloc o).frozen 0
              have HX8 : Hid (Blk ((w5.alloc (.cells #[.int .u8 i.op, .int .i64 i.arg, .int .u64 i.imm] 40)).setCell ⟨w.heap.size, 0, none⟩ (.slice none 0 0)) w.heap.size 25 #[.slice none 0 0]) := Lib.hid ((hx5.alloc _).set_ 0 _)
              have HRT : Hid (RParsePost t w (.returned (.tuple #[.agg #[.slice none 0 0], .int .i64 ((k : Int) + 1)])) ((w5.alloc (.cells #[.int .u8 i.op, .int .i64 i.arg, .int .u64 i.imm] 40)).setCell ⟨w.heap.size, 0, none⟩ (.slice none 0 0))) := Lib.hid ⟨(HW5.out.alloc (by omega) _).setCell (p := ⟨w.heap.size, 0, none⟩) (by simp) _, .inr ⟨k, HBAD.out, rfl⟩⟩
              clear hx5
              refine Lib.hid ?_
              go_wp2
              have s0 := HX8.out.cell 0
              exact bodyPost_ret (v := .tuple #[.agg #[.slice none 0 0], .int .i64 ((k : Int) + 1)]) (by simp [results, Tryd.results6, go_sem, s0]) rfl HRT.out
            | true =>
              rcases List.eq_nil_or_concat rs with hrs | ⟨a, r, hrs⟩
              · have hn0 : n = 0 := by have := HI5.out.po.len; rw [hrs] at this; exact this.symm
                have gn : ((n : Int) == 0) = true := by simp; omega
                have gn' : (n == 0) = true := by simp; omega
                have HBAD : Hid (parseT t = .inr (k + 1)) := Lib.hid (rpi_bad HI5.out HXL.out (by
                  rw [HWS.out, addL, if_neg HHD.out, if_neg HF0.out, hrs]
                  rfl))
                clear hin2 hrs hn0
                have hx5 := HX5.out
                have f0 := hx5.cell 0
                have r0 := hx5.frozen 0
                have f0a : ∀ o : Obj, (w5.alloc o).cell? ⟨w.heap.size, 0, none⟩ = some (.slice none 0 0) := fun o => (hx5.alloc o).cell 0
                have r0a : ∀ o : Obj, (w5.alloc o).frozen? ⟨w.heap.size, 0, none⟩ = false := fun o => (hx5.alloc o).frozen 0
                have HX8 : Hid (Blk ((w5.alloc (.cells #[.int .u8 i.op, .int .i64 i.arg, .int .u64 i.imm] 40)).setCell ⟨w.heap.size, 0, none⟩ (.slice none 0 0)) w.heap.size 25 #[.slice none 0 0]) := Lib.hid ((hx5.alloc _).set_ 0 _)
                have HRT : Hid (RParsePost t w (.returned (.tuple #[.agg #[.slice none 0 0], .int .i64 ((k : Int) + 1)])) ((w5.alloc (.cells #[.int .u8 i.op, .int .i64 i.arg, .int .u64 i.imm] 40)).setCell ⟨w.heap.size, 0, none⟩ (.slice none 0 0))) := Lib.hid ⟨(HW5.out.alloc (by omega) _).setCell (p := ⟨w.heap.size, 0, none⟩) (by simp) _, .inr ⟨k, HBAD.out, rfl⟩⟩
                clear hx5
                refine Lib.hid ?_
                go_wp2
                have s0 := HX8.out.cell 0
                exact bodyPost_ret (v := .tuple #[.agg #[.slice none 0 0], .int .i64 ((k : Int) + 1)]) (by simp [results, Tryd.results6, go_sem, s0]) rfl HRT.out
              · rw [List.concat_eq_append] at hrs
                subst hrs
                obtain ⟨g, hgA, hgb, hgl, hn, hnc, hlc, hlf⟩ := last_cell HI5.out.po
                subst hgA
                obtain ⟨j, hj⟩ : ∃ j, a.length = j := ⟨_, rfl⟩
                rw [hj] at hn
                subst hn
                have HJ := Lib.hid hj
                have HADD : Hid (addL (fns (a ++ [r])) (wordsL l) = some (addI (fns (a ++ [r])) i)) := Lib.hid (by
                  rw [HWS.out, addL, if_neg HHD.out, if_neg HF0.out, if_neg (by rw [fns_append]; simp [fns]), hin2]; rfl)
                have HWI := Lib.hid (insL_wf hin2)
                have gn : (((j + 1 : Nat) : Int) == 0) = false := by simp; omega
                have gn' : (j + 1 == 0) = false := by simp
                have gn2 : ((j : Int) + 1 == 0) = false := by simp; omega
                have hj1 : ((j : Int) + 1) - 1 = (j : Int) := by omega
                have hjl : j ≤ 1048577 := by omega
                have hj0 : (0 : Int) ≤ (j : Int) := by omega
                have hjj : (j : Int) < (j : Int) + 1 := by omega
                clear hin2 hj hgb hgl hlc hlf
                refine Lib.hid ?_
                go_wp2
                obtain ⟨W6, hW6⟩ : ∃ W6, W6 = w5.alloc (.cells #[.int .u8 i.op, .int .i64 i.arg, .int .u64 i.imm] 40) := ⟨_, rfl⟩
                have HI6 : Hid (RPI t w.heap.size w3 k W6 (some ⟨g, 0, none⟩) (j + 1) c (a ++ [r])) := Lib.hid (by rw [hW6]; exact rpi_below HI5.out hz3 ((Below.refl _ _).alloc (Nat.le_refl _) _))
                obtain ⟨g', hg', hgb, hglc, hx2, hx3, lcc, lfc⟩ := last_cell HI6.out.po
                obtain rfl : g = g' := by injection hg' with hg'; injection hg'
                rw [HJ.out] at lcc lfc
                have cp6 : W6.cell? ⟨w.heap.size + 1, 0, none⟩ = some (.slice (some ⟨g, 0, none⟩) (j + 1) c) := HI6.out.prog.cell
                have hx6 : Blk W6 w5.heap.size 40 #[.int .u8 i.op, .int .i64 i.arg, .int .u64 i.imm] := by rw [hW6]; exact Blk.new _ _ _
                have i0 := hx6.cell 0
                have i1 := hx6.cell 1
                have i2 := hx6.cell 2
                have hz6 : w3.heap.size ≤ W6.heap.size := HI6.out.keep.1.size
                have hcl : r.fn.code.length ≤ 1048577 := by have := HI6.out.po.lim.2 r (by simp); omega
                have HOA := Lib.hid (own_al (HI6.out.po.each r (by simp)).code (.cells #[.int .u8 i.op, .int .i64 i.arg, .int .u64 i.imm] 40))
                have HRd := Lib.hid (one_reads W6 40 (insOne i) 3 rfl)
                have hw56 : w5.heap.size < W6.heap.size := hx6.lt
                have hwz6 : w.heap.size + 1 < W6.heap.size := by omega
                have cp6a : ∀ o : Obj, (W6.alloc o).cell? ⟨w.heap.size + 1, 0, none⟩ = some (.slice (some ⟨g, 0, none⟩) (j + 1) c) := fun o => (World.cell?_alloc_lt W6 o ⟨w.heap.size + 1, 0, none⟩ hwz6).trans cp6
                have lcca : ∀ o : Obj, (W6.alloc o).cell? ⟨g, j * 5 + 4, none⟩ = some (.slice r.co r.fn.code.length r.cc) := fun o => (World.cell?_alloc_lt W6 o ⟨g, j * 5 + 4, none⟩ hglc).trans lcc
                rw [← hW6]
                clear hW6 hx6 hg' hgb hx2 hx3 cpa
                go_region_law (refine step_ins rfl _ _ rfl w3.heap.size (.slice r.co r.fn.code.length r.cc) r.fn.code.length (insc r.fn.code) rfl HOA.out (W6.heap.size + 1) (some ⟨W6.heap.size, 0, none⟩) 1 1 (insOne i) rfl HRd.out (insOne_one _) (by omega) (by simp; omega) ?_; intro v' w8 hown hgr hor; obtain ⟨co, cc, rfl, l8, lf8, p8, HF8⟩ := rpi_grow HI6.out HJ.out hz3 (by omega) HWI.out hown (grown_of_drew hgr) hor HXL.out HADD.out; clear hown hgr hor)
                all_goals
                  go_wp2
                  go_roundw
                  case rel => exact ⟨k + 1, by omega, by go_num, some ⟨g, 0, none⟩, j + 1, c, _, HF8⟩
                  case measure => simp [intOf]; omega
    · obtain rfl : k = ns := by omega
      have cp := HI.out.prog.cell
      have f0 := HXr.out.cell 0
      have r0 := HXr.out.frozen 0
      have HX8 : Hid (Blk (wr.setCell ⟨w.heap.size, 0, none⟩ (.slice A n c)) w.heap.size 25 #[.slice A n c]) := Lib.hid (HXr.out.set_ 0 _)
      have HRT : Hid (RParsePost t w (.returned (.tuple #[.agg #[.slice A n c], .int .i64 0])) (wr.setCell ⟨w.heap.size, 0, none⟩ (.slice A n c))) := Lib.hid ⟨HW.out.setCell (p := ⟨w.heap.size, 0, none⟩) (by simp) _, .inl ⟨A, n, c, rs, by
        rw [HI.out.so, List.drop_of_length_le (by have := HNS.out; omega)]; rfl, rfl,
        (HI.out.po.kept (W' := wr.setCell ⟨w.heap.size, 0, none⟩ (.slice A n c)) fun i h1 h2 => Below.heap_setCell wr ⟨w.heap.size, 0, none⟩ _ i (by simp; omega)).rdP (by omega)⟩⟩
      go_wp2
      have s0 := HX8.out.cell 0
      exact bodyPost_ret (v := .tuple #[.agg #[.slice A n c], .int .i64 0]) (by simp [results, Tryd.results6, go_sem, s0]) rfl HRT.out
end Go.Proofs.YtbpobbadmbafaaaDoor
