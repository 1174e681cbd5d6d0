/-
  The walk through TextJoins.
-/
import Derived.Test.YtfadcoimeocjiaaDoorTFirst
import Derived.Test.YtfadcoimeocjiaaDoorRefSame
namespace Go.Proofs.YtfadcoimeocjiaaDoor
set_option linter.unusedVariables false
open Go.ChangeShapes Go.WideShapes Go.ChangeAt Go.RowKit

theorem okP_fns {fs : List Fn} (h : okP fs = true) : ∀ f ∈ fs, okF f = true := (okP_iff.1 h).2.2
theorem okP_len {fs : List Fn} (h : okP fs = true) : 0 < fs.length ∧ fs.length ≤ 255 := ⟨(okP_iff.1 h).1, (okP_iff.1 h).2.1⟩
theorem printT_len {fs : List Fn} (h : okP fs = true) : (printT fs).length ≤ 484755000 := by
  have h1 := printT_le fs (okP_fns h)
  have h2 := (okP_len h).2
  omega
theorem printT_ne {fs : List Fn} (h : okP fs = true) : printT fs ≠ [] := by
  have h1 := (okP_len h).1
  cases fs with
  | nil => simp at h1
  | cons f r => rw [printT_eq, List.flatMap_cons]; unfold fnT headW funcW; simp
/-- Print, both ways in one -/
theorem print_any (B : Nat) (A : Option Addr) (n c : Nat) (rs : List Raw) (w : World) (h : RdP w B A n rs) (hB : B ≤ w.heap.size) (hE : Env w.heap.size w) :
    Calls Tryd.prog 12 #[.agg #[.slice A n c]] w fun e w' => e = .returned (.tuple #[.string (str (if okP (fns rs) then printT (fns rs) else [])), .int .i64 (if okP (fns rs) then 0 else 30)]) ∧ Below w.heap.size w w' := by
  cases hok : okP (fns rs) with
  | true => exact print_ok B A n c rs w h hB hok hE
  | false => exact print_no B A n c rs w h hB hok
/-- .. its answer under two letters -/
theorem print_S (B : Nat) (A : Option Addr) (n c : Nat) (rs : List Raw) (S : ByteArray) (pe : Int) (hS : S = str (if okP (fns rs) then printT (fns rs) else [])) (hp : pe = if okP (fns rs) then 0 else 30) (w : World) (h : RdP w B A n rs) (hB : B ≤ w.heap.size) (hE : Env w.heap.size w) :
    Calls Tryd.prog 12 #[.agg #[.slice A n c]] w fun e w' => e = .returned (.tuple #[.string S, .int .i64 pe]) ∧ Below w.heap.size w w' := by
  subst hS hp
  exact print_any B A n c rs w h hB hE
theorem own_lit0 (w : World) (base : Nat) (hb : base ≤ w.heap.size) : (w.alloc (.cells #[] 46)).ownsRow base 46 5 (.slice (some ⟨w.heap.size, 0, none⟩) 0 0) 0 [] :=
  ⟨rfl, .inr ⟨w.heap.size, 0, #[], rfl, hb, heap_alloc_new w _, Nat.le_refl _, by unfold maxLen; omega, rfl, rfl⟩⟩

theorem join_row {w : World} {base n n' c : Nat} {A : Option Addr} {rs rs' : List Raw} (ho : w.ownsRow base 46 5 (.slice A (n + n') c) (n + n') (rawc rs ++ rawc rs')) (h1 : ∃ A1, RdP w w.heap.size A1 n rs) (h2 : ∃ A2, RdP w w.heap.size A2 n' rs') (hn : n ≤ 255) (hn' : n' ≤ 255) :
    RdP w w.heap.size A (n + n') (rs ++ rs') := by
  obtain ⟨A1, h1⟩ := h1
  obtain ⟨A2, h2⟩ := h2
  refine ⟨by rw [rawc_append]; exact Reads.of_own ho, by rw [List.length_append, h1.len, h2.len], fun r hr => ?_, fun r hr => ?_, by omega⟩
  · exact (List.mem_append.1 hr).elim (h1.each r) (h2.each r)
  · exact (List.mem_append.1 hr).elim (h1.wf r) (h2.wf r)

set_option maxRecDepth 100000 in
set_option maxHeartbeats 8000000 in
theorem joins_walk (A A' : Option Addr) (n n' c c' : Nat) (rs rs' : List Raw) (w : World) (h : RdP w w.heap.size A n rs) (h' : RdP w w.heap.size A' n' rs') (hE : Env w.heap.size w) :
    Calls Tryd.prog 6 #[.agg #[.slice A n c], .agg #[.slice A' n' c']] w fun e w' => e = .returned (.bool true) ∧ Below w.heap.size w w' := by
  have HB0 : Hid (Below w.heap.size w ((w.alloc (.cells #[.slice A n c] 25)).alloc (.cells #[.slice A' n' c'] 25))) := Lib.hid (((Below.refl _ _).alloc (Nat.le_refl _) _).alloc (by simp) _)
  have HX0 : Hid (Blk ((w.alloc (.cells #[.slice A n c] 25)).alloc (.cells #[.slice A' n' c'] 25)) w.heap.size 25 #[.slice A n c]) := Lib.hid ((Blk.new w _ _).alloc _)
  have HY0 : Hid (Blk ((w.alloc (.cells #[.slice A n c] 25)).alloc (.cells #[.slice A' n' c'] 25)) (w.heap.size + 1) 25 #[.slice A' n' c']) := Lib.hid (blk_second w _ _ _ _)
  have HP := Lib.hid h
  have HP' := Lib.hid h'
  have HE := Lib.hid hE
  clear h h' hE
  obtain ⟨S, hS⟩ : ∃ S, S = str (if okP (fns rs) then printT (fns rs) else []) := ⟨_, rfl⟩
  obtain ⟨S', hS'⟩ : ∃ S, S = str (if okP (fns rs') then printT (fns rs') else []) := ⟨_, rfl⟩
  obtain ⟨pe, hpe⟩ : ∃ e : Int, e = if okP (fns rs) then 0 else 30 := ⟨_, rfl⟩
  obtain ⟨pe', hpe'⟩ : ∃ e : Int, e = if okP (fns rs') then 0 else 30 := ⟨_, rfl⟩
  have HS := Lib.hid hS
  have HS' := Lib.hid hS'
  have HPE := Lib.hid hpe
  have HPE' := Lib.hid hpe'
  clear hS hS' hpe hpe'
  go_enter Tryd.func6, Tryd.ntmps6
  go_wp2_with (go_at_call 8; refine (first_any _ (HE.out.at_ HB0.out HB0.out.size)).mono ?_; rintro e w1 ⟨rfl, hb1⟩; refine Hid.out ?_)
  have hz1 : w.heap.size + 2 ≤ w1.heap.size := by have := hb1.size; simp at this; omega
  have HB1 := Lib.hid (HB0.out.trans (hb1.mono HB0.out.size))
  have HX1 := Lib.hid (HX0.out.below hb1 (by simp; omega))
  have HY1 := Lib.hid (HY0.out.below hb1 (by simp))
  have x1 : w1.cell? ⟨w.heap.size, 0, none⟩ = some (.slice A n c) := HX1.out.cell 0
  clear hb1
  refine Lib.hid ?_
  go_wp2_with (go_at_call 12; refine (print_S w.heap.size A n c rs S pe HS.out HPE.out _ (HP.out.below HB1.out) (by omega) (HE.out.at_ HB1.out (by omega))).mono ?_; rintro e w2 ⟨rfl, hb2⟩; refine Hid.out ?_)
  have hz2 : w1.heap.size ≤ w2.heap.size := hb2.size
  have HB2 := Lib.hid (HB1.out.trans (hb2.mono (by omega)))
  have HX2 := Lib.hid (HX1.out.below hb2 (by omega))
  have HY2 := Lib.hid (HY1.out.below hb2 (by omega))
  have y2 : w2.cell? ⟨w.heap.size + 1, 0, none⟩ = some (.slice A' n' c') := HY2.out.cell 0
  clear hb2 x1
  refine Lib.hid ?_
  go_wp2_with (go_at_call 12; refine (print_S w.heap.size A' n' c' rs' S' pe' HS'.out HPE'.out _ (HP'.out.below HB2.out) (by omega) (HE.out.at_ HB2.out (by omega))).mono ?_; rintro e w3 ⟨rfl, hb3⟩; refine Hid.out ?_)
  have hz3 : w2.heap.size ≤ w3.heap.size := hb3.size
  have HB3 := Lib.hid (HB2.out.trans (hb3.mono (by omega)))
  have HX3 := Lib.hid (HX2.out.below hb3 (by omega))
  have HY3 := Lib.hid (HY2.out.below hb3 (by omega))
  clear hb3 y2
  cases hok : okP (fns rs) with
  | false =>
    have h1 : pe = 30 := by have := HPE.out; rw [hok] at this; simpa using this
    have h2 : S = str [] := by have := HS.out; rw [hok] at this; simpa using this
    subst h1
    have hs : (S.toList == []) = true := by rw [h2, str_toList]; rfl
    have hs2 : S.toList.isEmpty = true := by rw [h2, str_toList]; rfl
    clear h2 hok
    refine Lib.hid ?_
    go_wp2
    go_ret
    exact ⟨rfl, HB3.out⟩
  | true =>
    have h1 : pe = 0 := by have := HPE.out; rw [hok] at this; simpa using this
    have h2 : S = str (printT (fns rs)) := by have := HS.out; rw [hok] at this; simpa using this
    subst h1
    have hs2 : S.toList.isEmpty = false := by
      rw [h2, str_toList]
      cases hp : printT (fns rs) with
      | nil => exact absurd hp (printT_ne hok)
      | cons x r => simp
    have hs : (S.toList == []) = false := by rw [h2, str_toList]; simpa using printT_ne hok
    have H2 : Hid (S = str (printT (fns rs))) := Lib.hid h2
    cases hok' : okP (fns rs') with
    | false =>
      have h1' : pe' = 30 := by have := HPE'.out; rw [hok'] at this; simpa using this
      have h2' : S' = str [] := by have := HS'.out; rw [hok'] at this; simpa using this
      subst h1'
      have hs' : (S'.toList == []) = true := by rw [h2', str_toList]; rfl
      have hs2' : S'.toList.isEmpty = true := by rw [h2', str_toList]; rfl
      clear h2 h2' hok hok'
      refine Lib.hid ?_
      go_wp2
      go_ret
      exact ⟨rfl, HB3.out⟩
    | true =>
      have h1' : pe' = 0 := by have := HPE'.out; rw [hok'] at this; simpa using this
      have h2' : S' = str (printT (fns rs')) := by have := HS'.out; rw [hok'] at this; simpa using this
      subst h1'
      have hl := printT_len hok
      have hl' := printT_len hok'
      have HPT : Hid (parseT (printT (fns rs) ++ printT (fns rs')) = .inl (fns rs ++ fns rs')) := Lib.hid (by
        rw [← printT_append]
        exact parse_print _ (fun f hf => (List.mem_append.1 hf).elim (okP_fns hok f) (okP_fns hok' f)))
      have hX : S.size ≤ 484755000 := by rw [h2, str_size]; exact hl
      have hX' : S'.size ≤ 484755000 := by rw [h2', str_size]; exact hl'
      have hST : S ++ S' = str (printT (fns rs) ++ printT (fns rs')) := by rw [h2, h2']; exact str_append _ _
      obtain ⟨Z, hZ⟩ : ∃ Z, S ++ S' = Z := ⟨_, rfl⟩
      have HZ : Hid (Z = str (printT (fns rs) ++ printT (fns rs'))) := Lib.hid (by rw [← hZ]; exact hST)
      have HLT : Hid ((printT (fns rs) ++ printT (fns rs')).length ≤ 4294967296) := Lib.hid (by rw [List.length_append]; omega)
      have hn := (okP_len hok).2
      have hn' := (okP_len hok').2
      rw [length_fns, HP.out.len] at hn
      rw [length_fns, HP'.out.len] at hn'
      have HRp := Lib.hid (HP.out.below HB3.out)
      have HRq := Lib.hid (HP'.out.below HB3.out)
      have x3 : w3.cell? ⟨w.heap.size, 0, none⟩ = some (.slice A n c) := HX3.out.cell 0
      have y3 : w3.cell? ⟨w.heap.size + 1, 0, none⟩ = some (.slice A' n' c') := HY3.out.cell 0
      have hzw : w.heap.size + 1 < w3.heap.size := by omega
      have x3a : ∀ o : Obj, (w3.alloc o).cell? ⟨w.heap.size, 0, none⟩ = some (.slice A n c) := fun o => (HX3.out.alloc o).cell 0
      have y3a : ∀ o : Obj, (w3.alloc o).cell? ⟨w.heap.size + 1, 0, none⟩ = some (.slice A' n' c') := fun o => (HY3.out.alloc o).cell 0
      have x3b : ∀ o u : Obj, ((w3.alloc o).alloc u).cell? ⟨w.heap.size, 0, none⟩ = some (.slice A n c) := fun o u => ((HX3.out.alloc o).alloc u).cell 0
      have y3b : ∀ o u : Obj, ((w3.alloc o).alloc u).cell? ⟨w.heap.size + 1, 0, none⟩ = some (.slice A' n' c') := fun o u => ((HY3.out.alloc o).alloc u).cell 0
      have HO0 := Lib.hid (own_lit0 w3 (w.heap.size + 2) (by omega))
      have HO0b := Lib.hid (own_al (own_lit0 w3 (w.heap.size + 2) (by omega)) (.cells #[.slice none 0 0] 25))
      have HO0c : Hid (((w3.alloc (.cells #[.slice none 0 0] 25)).alloc (.cells #[] 46)).ownsRow (w.heap.size + 2) 46 5 (.slice (some ⟨w3.heap.size + 1, 0, none⟩) 0 0) 0 []) := Lib.hid (by
        have h := own_lit0 (w3.alloc (.cells #[.slice none 0 0] 25)) (w.heap.size + 2) (by simp; omega)
        simpa using h)
      have HNB := Lib.hid hn
      have HNB' := Lib.hid hn'
      clear hl hl' hok hok' h2 h2' hST
      refine Lib.hid ?_
      go_upto_region 7 with fail
      go_cut [9] (fun s9 wx => ∃ (q : Nat) (A6 : Option Addr) (c6 : Nat), s9 = .pointer (some ⟨q, 0, none⟩) ∧ Hid (Blk wx q 25 #[.slice A6 (n + n') c6]) ∧ Hid (Below (w.heap.size + 2) w3 wx) ∧ Hid (wx.ownsRow (w.heap.size + 2) 46 5 (.slice A6 (n + n') c6) (n + n') (rawc rs ++ rawc rs')))
      case first =>
        go_region_law (first
          | (refine step_fn rfl _ _ rfl (w.heap.size + 2) (.slice (some ⟨w3.heap.size, 0, none⟩) 0 0) 0 [] rfl HO0.out w.heap.size A n c (rawc rs) rfl (HRp.out.row.alloc (by omega) _) (rawc_one _) (by omega) (by simp; omega) ?_; intro v5 w5 hown5 hgr5 _; have hb5 : Below (w.heap.size + 2) w3 w5 := ((Below.refl _ _).alloc (by omega) _).grown (grown_of_drew hgr5) (by simp; omega) (fun i hi => (own_block_le HO0.out hi).1); obtain ⟨A5, c5, rfl⟩ := own_slice hown5; have HO5 : Hid (w5.ownsRow (w.heap.size + 2) 46 5 (.slice A5 n c5) n (rawc rs)) := Lib.hid (by simpa using hown5); have HB5 := Lib.hid hb5; have x5 : w5.cell? ⟨w.heap.size, 0, none⟩ = some (.slice A n c) := (hb5.cell (p := ⟨w.heap.size, 0, none⟩) (by simp)).trans x3; have y5 : w5.cell? ⟨w.heap.size + 1, 0, none⟩ = some (.slice A' n' c') := (hb5.cell (p := ⟨w.heap.size + 1, 0, none⟩) (by simp)).trans y3; have y5a : ∀ o : Obj, (w5.alloc o).cell? ⟨w.heap.size + 1, 0, none⟩ = some (.slice A' n' c') := fun o => (World.cell?_alloc_lt w5 o ⟨w.heap.size + 1, 0, none⟩ (by have := hb5.size; simp only; omega)).trans y5; have hz5 : w3.heap.size ≤ w5.heap.size := hb5.size; clear hown5 hgr5 hb5)
          | (refine step_fn rfl _ _ rfl (w.heap.size + 2) (.slice (some ⟨w3.heap.size, 0, none⟩) 0 0) 0 [] rfl HO0b.out w.heap.size A n c (rawc rs) rfl ((HRp.out.row.alloc (by omega) _).alloc (by simp; omega) _) (rawc_one _) (by omega) (by simp; omega) ?_; intro v5 w5 hown5 hgr5 _; have hb5 : Below (w.heap.size + 2) w3 w5 := (((Below.refl _ _).alloc (by omega) _).alloc (by simp; omega) _).grown (grown_of_drew hgr5) (by simp; omega) (fun i hi => (own_block_le HO0b.out hi).1); have HBX5 : Hid (Blk w5 (w3.heap.size + 1) 25 #[.slice none 0 0]) := Lib.hid (blk_own (blk_second w3 _ _ _ _) HO0b.out (grown_of_drew hgr5) (by decide)); obtain ⟨A5, c5, rfl⟩ := own_slice hown5; have HO5 : Hid (w5.ownsRow (w.heap.size + 2) 46 5 (.slice A5 n c5) n (rawc rs)) := Lib.hid (by simpa using hown5); have HB5 := Lib.hid hb5; have x5 : w5.cell? ⟨w.heap.size, 0, none⟩ = some (.slice A n c) := (hb5.cell (p := ⟨w.heap.size, 0, none⟩) (by simp)).trans x3; have y5 : w5.cell? ⟨w.heap.size + 1, 0, none⟩ = some (.slice A' n' c') := (hb5.cell (p := ⟨w.heap.size + 1, 0, none⟩) (by simp)).trans y3; have y5a : ∀ o : Obj, (w5.alloc o).cell? ⟨w.heap.size + 1, 0, none⟩ = some (.slice A' n' c') := fun o => (World.cell?_alloc_lt w5 o ⟨w.heap.size + 1, 0, none⟩ (by have := hb5.size; simp only; omega)).trans y5; have hz5 : w3.heap.size ≤ w5.heap.size := hb5.size; clear hown5 hgr5 hb5)
          | (refine step_fn rfl _ _ rfl (w.heap.size + 2) (.slice (some ⟨w3.heap.size + 1, 0, none⟩) 0 0) 0 [] rfl HO0c.out w.heap.size A n c (rawc rs) rfl ((HRp.out.row.alloc (by omega) _).alloc (by simp; omega) _) (rawc_one _) (by omega) (by simp; omega) ?_; intro v5 w5 hown5 hgr5 _; have hb5 : Below (w.heap.size + 2) w3 w5 := (((Below.refl _ _).alloc (by omega) _).alloc (by simp; omega) _).grown (grown_of_drew hgr5) (by simp; omega) (fun i hi => (own_block_le HO0c.out hi).1); have HBX5 : Hid (Blk w5 w3.heap.size 25 #[.slice none 0 0]) := Lib.hid (blk_own ((Blk.new w3 _ _).alloc _) HO0c.out (grown_of_drew hgr5) (by decide)); obtain ⟨A5, c5, rfl⟩ := own_slice hown5; have HO5 : Hid (w5.ownsRow (w.heap.size + 2) 46 5 (.slice A5 n c5) n (rawc rs)) := Lib.hid (by simpa using hown5); have HB5 := Lib.hid hb5; have x5 : w5.cell? ⟨w.heap.size, 0, none⟩ = some (.slice A n c) := (hb5.cell (p := ⟨w.heap.size, 0, none⟩) (by simp)).trans x3; have y5 : w5.cell? ⟨w.heap.size + 1, 0, none⟩ = some (.slice A' n' c') := (hb5.cell (p := ⟨w.heap.size + 1, 0, none⟩) (by simp)).trans y3; have y5a : ∀ o : Obj, (w5.alloc o).cell? ⟨w.heap.size + 1, 0, none⟩ = some (.slice A' n' c') := fun o => (World.cell?_alloc_lt w5 o ⟨w.heap.size + 1, 0, none⟩ (by have := hb5.size; simp only; omega)).trans y5; have hz5 : w3.heap.size ≤ w5.heap.size := hb5.size; clear hown5 hgr5 hb5)
          | (refine step_fn rfl _ _ rfl (w.heap.size + 2) (.slice A5 n c5) n (rawc rs) rfl HO5.out w.heap.size A' n' c' (rawc rs') rfl ((HRq.out.below (HB5.out.mono (by omega))).row) (rawc_one _) (by omega) (by omega) ?_; intro v6 w6 hown6 hgr6 _; have hb6 : Below (w.heap.size + 2) w5 w6 := (Below.refl _ _).grown hgr6 (by omega) (fun i hi => (own_block_le HO5.out hi).1); obtain ⟨A6, c6, rfl⟩ := own_slice hown6; have HO6 := Lib.hid hown6; have HB6 := Lib.hid (HB5.out.trans hb6); have hz6 : w5.heap.size ≤ w6.heap.size := hb6.size; clear hown6 hb6; have hb6' : True := trivial; first | (have b6 := blk_own HBX5.out HO5.out hgr6 (by decide); have b6c := b6.cell 0; have b6f := b6.frozen 0; have HBX6 := Lib.hid b6; clear b6) | skip; clear hgr6)
          | (refine step_fn rfl _ _ rfl (w.heap.size + 2) (.slice A5 n c5) n (rawc rs) rfl (own_al HO5.out (.cells #[.slice none 0 0] 25)) w.heap.size A' n' c' (rawc rs') rfl ((HRq.out.below (HB5.out.mono (by omega))).row.alloc (by omega) _) (rawc_one _) (by omega) (by simp; omega) ?_; intro v6 w6 hown6 hgr6 _; have hb6 : Below (w.heap.size + 2) w5 w6 := ((Below.refl _ _).alloc (by omega) _).grown hgr6 (by simp; omega) (fun i hi => (own_block_le (own_al HO5.out (.cells #[.slice none 0 0] 25)) hi).1); obtain ⟨A6, c6, rfl⟩ := own_slice hown6; have HO6 := Lib.hid hown6; have HB6 := Lib.hid (HB5.out.trans hb6); have hz6 : w5.heap.size ≤ w6.heap.size := hb6.size; clear hown6 hb6; have b6 := blk_own (Blk.new w5 25 #[.slice none 0 0]) (own_al HO5.out _) hgr6 (by decide); have b6c := b6.cell 0; have b6f := b6.frozen 0; have HBX6 := Lib.hid b6; clear b6 hgr6))
        all_goals
          go_wp2
          go_meet
        all_goals first
          | exact ⟨_, A6, c6, rfl, Lib.hid (Blk.new w6 _ _), Lib.hid (HB6.out.alloc (by omega) _), Lib.hid (own_al HO6.out _)⟩
          | exact ⟨_, A6, c6, rfl, Lib.hid (by have h := HBX6.out.set_ 0 (.slice A6 (n + n') c6); simpa using h), Lib.hid (HB6.out.setCell (by simp; omega) _), Lib.hid (own_kept HO6.out (fun i hi => Below.heap_setCell w6 _ _ i (fun e => own_blk_ne HO6.out HBX6.out (by decide) (by rw [hi, e]))))⟩
      case rest =>
        obtain ⟨q, A6, c6, rfl, HQ, HBq, HOq⟩ := hcut
        have HBZ : Hid (Below w.heap.size w wc) := Lib.hid (HB3.out.trans (HBq.out.mono (by omega)))
        have hzq := HBq.out.size
        have hq : wc.cell? ⟨q, 0, none⟩ = some (.slice A6 (n + n') c6) := HQ.out.cell 0
        have HJ : Hid (RdP wc wc.heap.size A6 (n + n') (rs ++ rs')) := Lib.hid (join_row HOq.out ⟨A, (HRp.out.below (HBq.out.mono (by omega))).more (by omega)⟩ ⟨A', (HRq.out.below (HBq.out.mono (by omega))).more (by omega)⟩ HNB.out HNB'.out)
        have HPY : Hid (Calls Tryd.prog 9 #[.string Z] wc fun e w' => ∃ (A7 : Option Addr) (n7 c7 : Nat) (xs : List Raw), fns xs = fns rs ++ fns rs' ∧ e = .returned (.tuple #[.agg #[.slice A7 n7 c7], .int .i64 0, .int .i64 0]) ∧ RdP w' w'.heap.size A7 n7 xs ∧ n7 ≤ c7 ∧ Below wc.heap.size wc w') := Lib.hid (by
          rw [HZ.out]
          exact parse_yes _ _ HPT.out HLT.out wc (HE.out.at_ HBZ.out (by omega)))
        go_wp2_with (go_at_call 9; refine HPY.out.mono ?_; rintro e w7 ⟨A7, n7, c7, xs, hx, rfl, hr7, hn7, hb7⟩; refine Hid.out ?_)
        have q7 : w7.cell? ⟨q, 0, none⟩ = some (.slice A6 (n + n') c6) := (HQ.out.below hb7 HQ.out.lt).cell 0
        have q7a : ∀ o : Obj, (w7.alloc o).cell? ⟨q, 0, none⟩ = some (.slice A6 (n + n') c6) := fun o => ((HQ.out.below hb7 HQ.out.lt).alloc o).cell 0
        have HR7 : Hid (∀ o : Obj, RdP (w7.alloc o) w7.heap.size A7 n7 xs) := Lib.hid fun o => hr7.alloc (Nat.le_refl _) o
        have HJ7 : Hid (∀ o : Obj, RdP (w7.alloc o) w7.heap.size A6 (n + n') (rs ++ rs')) := Lib.hid fun o => ((HJ.out.below hb7).more hb7.size).alloc (Nat.le_refl _) o
        have HEQ : Hid (decide (fns xs = fns (rs ++ rs')) = true) := Lib.hid (by rw [fns_append]; simpa using hx)
        have HB7 : Hid (Below w.heap.size w w7) := Lib.hid (HBZ.out.trans (hb7.mono (by have := HBZ.out.size; omega)))
        clear hr7 hx hb7 hq
        refine Lib.hid ?_
        go_wp2_with (go_at_call 11; refine (rsame_any w7.heap.size _ _ _ _ _ _ _ _ _ (HR7.out _) (HJ7.out _) (by simp)).mono ?_; rintro e w8 ⟨rfl, hb8⟩; rw [HEQ.out]; have HB8 := Lib.hid ((HB7.out.alloc HB7.out.size _).trans (hb8.mono (by simp; have := HB7.out.size; omega))); clear hb8; refine Hid.out ?_)
        refine Lib.hid ?_
        go_wp2
        go_ret
        exact ⟨rfl, HB8.out⟩
end Go.Proofs.YtfadcoimeocjiaaDoor
