/-
  The reader's program.
-/
import Derived.Test.YtklfppeecgkpnaaDecD
import Derived.Deep.LoopGhost
import Derived.Deep.RegionLaw
namespace Go.Proofs.Ytklfppeecgkpnaa
set_option linter.unusedVariables false
open Go.ChangeShapes Go.WideShapes Go.ChangeAt Go.RowKit

theorem own_far {w : World} {base size n p : Nat} {e t : TypeId} {v : Value} {xs : List Value} {cs : Array Value} (h : w.ownsRow base e size v n xs) (hb : Blk w p t cs) (hne : e ≠ t) (i : Nat) (u : Value) : (w.setCell ⟨p, i, none⟩ u).ownsRow base e size v n xs :=
  own_kept h fun j hj => Below.heap_setCell _ _ _ _ fun hij => own_blk_ne h hb hne (by rw [hj, hij])
theorem own_alloc {w : World} {base size n : Nat} {e : TypeId} {v : Value} {xs : List Value} (h : w.ownsRow base e size v n xs) (o : Obj) : (w.alloc o).ownsRow base e size v n xs := h.alloc o
theorem blk_grown {w w' : World} {base size n p : Nat} {e t : TypeId} {v : Value} {xs : List Value} {cs : Array Value} (hb : Blk w p t cs) (h : w.ownsRow base e size v n xs) (hg : w.grownBy w' v.ownBlock) (hne : e ≠ t) : Blk w' p t cs :=
  hb.grown hg fun e' => own_blk_ne h hb hne e'.symm

theorem grown_of_drew {a b : World} {row : Option Nat} (h : a.drew.grownBy b row) : a.grownBy b row := ⟨h.os, h.tape, h.output, h.size, h.block⟩
/-- the loop of 'program': what its memory holds -/
structure PrI (w : World) (B g p n : Nat) (s0 : St) (rs : List Raw) (k : Nat) (A : Option Addr) (c : Nat) (s : St) (wr : World) : Prop where
  blk : Blk wr p 26 #[.slice A k c]
  res : Blk wr w.heap.size 26 #[.slice none 0 0]
  own : wr.ownsRow w.heap.size 43 5 (.slice A k c) k (rawc rs)
  len : rs.length = k
  each : ∀ r ∈ rs, OwnF wr w.heap.size r
  rdr : Rdr wr B g s
  eq : pFns n s0 = (fns rs ++ (pFns (n - k) s).1, (pFns (n - k) s).2)
  grown : w.grownBy wr (some g)
  lt : w.heap.size < p

theorem pFns_step {n k : Nat} {l : List Int} (hk : k < n) : pFns (n - k) (some l) = ((pFn (some l)).1 :: (pFns (n - (k + 1)) (pFn (some l)).2).1, (pFns (n - (k + 1)) (pFn (some l)).2).2) := by
  obtain ⟨m, hm⟩ : ∃ m, n - k = m + 1 := ⟨n - k - 1, by omega⟩
  rw [hm, show n - (k + 1) = m by omega]
  rfl
theorem pFns_none (m : Nat) : pFns m none = ([], none) := by cases m <;> rfl
theorem pFns_zero (s : St) : pFns 0 s = ([], s) := rfl

theorem PrI.step {w wr w2 w3 : World} {B g p n k c : Nat} {s0 : St} {rs : List Raw} {A : Option Addr} {l : List Int} {r : Raw} {v' : Value} (o : Obj) (h : PrI w B g p n s0 rs k A c (some l) wr) (hk : k < n) (hgl : g < w.heap.size)
    (hr : r.fn = (pFn (some l)).1) (hof : OwnF w2 wr.heap.size r) (h2 : Rdr w2 B g (pFn (some l)).2) (hg2 : wr.grownBy w2 (some g))
    (hown : w3.ownsRow w.heap.size 43 5 v' (k + 1) (rawc rs ++ rawOne r)) (hgr : (w2.alloc o).grownBy w3 (Value.slice A k c).ownBlock) :
    ∃ A3 c3, v' = .slice A3 (k + 1) c3 ∧ w3.cell? ⟨p, 0, none⟩ = some (.slice A k c) ∧ w3.frozen? ⟨p, 0, none⟩ = false ∧ PrI w B g p n s0 (rs ++ [r]) (k + 1) A3 c3 (pFn (some l)).2 (w3.setCell ⟨p, 0, none⟩ (.slice A3 (k + 1) c3)) := by
  obtain ⟨A3, c3, rfl⟩ := own_slice hown
  have hlt := h.lt
  have hzr : w.heap.size ≤ wr.heap.size := h.grown.size
  have hb2 := (h.blk.only hg2 (by omega)).alloc o
  have hs2 := (h.res.only hg2 (by omega)).alloc o
  have ho2 := own_alloc (own_only h.own hg2 hgl) o
  have hb3 : Blk w3 p 26 #[.slice A k c] := blk_grown hb2 ho2 hgr (by decide)
  have hs3 := blk_grown hs2 ho2 hgr (by decide)
  have keepL : ∀ r' : Raw, OwnF (w2.alloc o) w.heap.size r' → OwnF (w3.setCell ⟨p, 0, none⟩ (.slice A3 (k + 1) c3)) w.heap.size r' := fun r' hr' =>
    ⟨own_far (own_grown ho2 hr'.locals hgr (by decide)) hb3 (by decide) 0 _, own_far (own_grown ho2 hr'.code hgr (by decide)) hb3 (by decide) 0 _⟩
  refine ⟨A3, c3, rfl, hb3.cell 0, hb3.frozen 0, ⟨hb3.set_ 0 _, hs3.far (p := ⟨p, 0, none⟩) (by show w.heap.size ≠ p; omega) _, ?_, by rw [List.length_append, h.len]; rfl, ?_, ?_, ?_, ?_, hlt⟩⟩
  · have := own_far hown hb3 (by decide) 0 (.slice A3 (k + 1) c3)
    rw [rawc_append]
    simpa [rawc] using this
  · intro r' hr'
    rcases List.mem_append.1 hr' with hr' | hr'
    · exact keepL r' ⟨own_alloc (own_only (h.each r' hr').locals hg2 hgl) o, own_alloc (own_only (h.each r' hr').code hg2 hgl) o⟩
    · obtain rfl : r' = r := by simpa using hr'
      exact keepL r' ⟨own_more (own_alloc hof.locals o) hzr, own_more (own_alloc hof.code o) hzr⟩
  · exact (h2.app hgr (own_only h.own hg2 hgl) hgl).store (p := ⟨p, 0, none⟩) (by show g < p; omega) _
  · have := h.eq
    rw [pFns_step hk] at this
    rw [this, fns_append]
    simp [fns, hr]
  · exact only_setCell (p := ⟨p, 0, none⟩) (only_grown (only_alloc (grown_trans' h.grown hg2) o) hgr fun i hi => (own_block_le h.own hi).1) (.inr (by show w.heap.size ≤ p; omega)) _

/-- what 'program' leaves -/
def RdPr (B g : Nat) (w : World) (s : St) (e : Ending) (w' : World) : Prop :=
  ∃ (rs : List Raw) (k : Nat) (A : Option Addr) (c : Nat), fns rs = (pProg s).1 ∧ rs.length = k ∧ e = .returned (.agg #[.slice A k c]) ∧ w'.ownsRow w.heap.size 43 5 (.slice A k c) k (rawc rs) ∧ (∀ r ∈ rs, OwnF w' w.heap.size r) ∧ Rdr w' B g (pProg s).2 ∧ w.grownBy w' (some g)

theorem PrI.done {w wr : World} {B g p n k c : Nat} {s0 s : St} {rs : List Raw} {A : Option Addr} (h : PrI w B g p n s0 rs k A c s wr) (hd : pFns (n - k) s = ([], s)) (sp : St) (hp : pProg sp = pFns n s0) (hgl : g < w.heap.size) :
    RdPr B g w sp (.returned (.agg #[.slice A k c])) (wr.setCell ⟨w.heap.size, 0, none⟩ (.slice A k c)) := by
  have he := h.eq
  rw [hd, List.append_nil] at he
  simp only at he
  refine ⟨rs, k, A, c, by rw [hp, he], h.len, rfl, own_far h.own h.res (by decide) 0 _, fun r hr => ⟨own_far (h.each r hr).locals h.res (by decide) 0 _, own_far (h.each r hr).code h.res (by decide) 0 _⟩, ?_, ?_⟩
  · rw [hp, he]
    exact h.rdr.store (p := ⟨w.heap.size, 0, none⟩) hgl _
  · exact only_setCell (p := ⟨w.heap.size, 0, none⟩) h.grown (.inr (Nat.le_refl _)) _

set_option maxRecDepth 100000 in
set_option maxHeartbeats 3200000 in
theorem program_any (B g : Nat) (s : St) (w : World) (h : Rdr w B g s) :
    Calls Try.prog 20 #[.pointer (some ⟨g, 0, none⟩)] w (RdPr B g w s) := by
  have hgl := h.lt
  obtain ⟨a, HA⟩ : ∃ x, Hid (x = (num 1 s).1) := ⟨_, rfl⟩
  obtain ⟨s1, HS1⟩ : ∃ x, Hid (x = (num 1 s).2) := ⟨_, rfl⟩
  obtain ⟨s2, HS2⟩ : ∃ x, Hid (x = need (a == 87) s1) := ⟨_, rfl⟩
  obtain ⟨b, HB⟩ : ∃ x, Hid (x = (num 1 s2).1) := ⟨_, rfl⟩
  obtain ⟨s3, HS3⟩ : ∃ x, Hid (x = (num 1 s2).2) := ⟨_, rfl⟩
  obtain ⟨s4, HS4⟩ : ∃ x, Hid (x = need (b == 76) s3) := ⟨_, rfl⟩
  obtain ⟨n, HN⟩ : ∃ x, Hid (x = (num 1 s4).1.toNat) := ⟨_, rfl⟩
  obtain ⟨s5, HS5⟩ : ∃ x, Hid (x = (num 1 s4).2) := ⟨_, rfl⟩
  obtain ⟨s6, HS6⟩ : ∃ x, Hid (x = need (decide (0 < n)) s5) := ⟨_, rfl⟩
  have hv := h.num1
  rw [← HA.out] at hv
  obtain ⟨ha0, ha1⟩ := hv
  have H := Lib.hid h
  clear h
  go_enter Try.func20, Try.ntmps20
  have HQ := Lib.hid (Blk.new w 26 #[.slice none 0 0])
  have HR := Lib.hid (H.out.alloc (.cells #[.slice none 0 0] 26))
  have HG0 : Hid (w.grownBy (w.alloc (.cells #[.slice none 0 0] 26)) (some g)) := only_alloc (World.grownBy.refl w _) _
  go_wp2_with (go_at_call 35; refine (number_any B g 1 s _ HR.out (by omega)).mono ?_; rintro e w1 ⟨rfl, h1, hg1⟩; rw [← HS1.out] at h1; rw [← HA.out]; refine Hid.out ?_)
  have H1 := Lib.hid h1
  have HG1 := Lib.hid (grown_trans' HG0.out hg1)
  have HQ1 := Lib.hid (HQ.out.only hg1 (by omega))
  clear h1 hg1
  refine Lib.hid ?_
  go_wp2_with (go_at_call 21; refine (need_any B g s1 _ _ H1.out).mono ?_; rintro e w2 ⟨rfl, h2, hg2⟩; rw [← HS2.out] at h2; refine Hid.out ?_)
  have H2 := Lib.hid h2
  have HG2 := Lib.hid (grown_trans' HG1.out hg2)
  have HQ2 := Lib.hid (HQ1.out.only hg2 (by omega))
  have hv := h2.num1
  rw [← HB.out] at hv
  obtain ⟨hb0, hb1⟩ := hv
  clear h2 hg2
  refine Lib.hid ?_
  go_wp2_with (go_at_call 35; refine (number_any B g 1 s2 _ H2.out (by omega)).mono ?_; rintro e w3 ⟨rfl, h3, hg3⟩; rw [← HS3.out] at h3; rw [← HB.out]; refine Hid.out ?_)
  have H3 := Lib.hid h3
  have HG3 := Lib.hid (grown_trans' HG2.out hg3)
  have HQ3 := Lib.hid (HQ2.out.only hg3 (by omega))
  clear h3 hg3
  refine Lib.hid ?_
  go_wp2_with (go_at_call 21; refine (need_any B g s3 _ _ H3.out).mono ?_; rintro e w4 ⟨rfl, h4, hg4⟩; rw [← HS4.out] at h4; refine Hid.out ?_)
  have H4 := Lib.hid h4
  have HG4 := Lib.hid (grown_trans' HG3.out hg4)
  have HQ4 := Lib.hid (HQ3.out.only hg4 (by omega))
  have hv := h4.num1
  have hbb : (num 1 s4).1 = (n : Int) := by rw [HN.out]; omega
  have HNN := Lib.hid hbb
  have hn255 : n ≤ 255 := by omega
  have HPP : Hid (pProg s = pFns n s6) := by
    show pProg s = _
    unfold pProg
    simp only
    rw [← HA.out, ← HS1.out]
    have e1 : need (decide (a = 87)) s1 = s2 := by rw [HS2.out]; congr 1
    rw [e1, ← HB.out, ← HS3.out]
    have e2 : need (decide (b = 76)) s3 = s4 := by rw [HS4.out]; congr 1
    rw [e2, ← HS5.out, ← HN.out, HNN.out]
    have e3 : need (decide (0 < (n : Int))) s5 = s6 := by
      rw [HS6.out]
      congr 1
      simp
    rw [e3]
  clear h4 hg4 hv hbb
  refine Lib.hid ?_
  go_wp2_with (go_at_call 35; refine (number_any B g 1 s4 _ H4.out (by omega)).mono ?_; rintro e w5 ⟨rfl, h5, hg5⟩; rw [← HS5.out] at h5; rw [HNN.out]; refine Hid.out ?_)
  have H5 := Lib.hid h5
  have HG5 := Lib.hid (grown_trans' HG4.out hg5)
  have HQ5 := Lib.hid (HQ4.out.only hg5 (by omega))
  clear h5 hg5
  refine Lib.hid ?_
  go_wp2_with (go_at_call 21; refine (need_any B g s5 _ _ H5.out).mono ?_; rintro e w6 ⟨rfl, h6, hg6⟩; rw [← HS6.out] at h6; refine Hid.out ?_)
  have hq6 := HQ5.out.only hg6 (by omega)
  have HI : Hid (PrI w B g w6.heap.size n s6 [] 0 none 0 s6 (w6.alloc (.cells #[.slice none 0 0] 26))) := by
    exact ⟨Blk.new _ _ _, hq6.alloc _, own_none _ _ _ _, rfl, (fun r hr => by cases hr), h6.alloc _, rfl, only_alloc (grown_trans' HG5.out hg6) _, hq6.lt⟩
  clear h6 hg6 hq6
  refine Lib.hid ?_
  go_wp2
  go_loopg [] n (fun k' wr => ∃ (rs : List Raw) (k : Nat) (A : Option Addr) (c : Nat) (s' : St), k' + k = n ∧ Hid (PrI w B g w6.heap.size n s6 rs k A c s' wr))
  case atStart => exact ⟨[], 0, none, 0, s6, rfl, HI⟩
  case round =>
    clear HI
    obtain ⟨rs, k, A, c, s', hk, HI⟩ := hrel
    have c0 : wr.cell? ⟨w6.heap.size, 0, none⟩ = some (.slice A k c) := HI.out.blk.cell 0
    have r0 : wr.cell? ⟨w.heap.size, 0, none⟩ = some (.slice none 0 0) := HI.out.res.cell 0
    have rf := HI.out.res.frozen 0
    by_cases hlt : k < n
    · cases s' with
      | none =>
        have c1 := HI.out.rdr.bad
        have HD := Lib.hid (HI.out.done (by rw [pFns_none]) s HPP.out hgl)
        go_wp2
        exact bodyPost_ret (v := .agg #[.slice A k c]) (by simp [results, Try.results20, go_sem, r0]) rfl HD.out
      | some l =>
        have c1 := HI.out.rdr.good
        clear r0 rf
        go_wp2
        have hlt6 := HI.out.lt
        go_region_law (first
          | (refine step_fn rfl _ _ rfl w.heap.size (.slice A k c) k (rawc rs) rfl HA7.out (w7.heap.size + 1) (some ⟨w7.heap.size, 0, none⟩) 1 1 (rawOne r) rfl (one_reads w7 43 (rawOne r) 5 rfl) (rawOne_one r) (by omega) (by simp; omega) ?_
             intro v' w8 hown hgr hor
             obtain ⟨A8, c8, rfl, c8', f8', hI8⟩ := HI.out.step _ hlt hgl H7.out.1 H7.out.2.1 H7.out.2.2.1 H7.out.2.2.2 hown hgr
             have HI8 := Lib.hid hI8
             clear hown hgr hor hI8)
          | (go_simp; go_at_call 36; refine (function_any B g (some l) wr.drew HI.out.rdr).mono ?_; rintro e w7 ⟨r, hr, rfl, hof, h7, hg7⟩
             have hg7' := grown_of_drew hg7
             have c7 : w7.cell? ⟨w6.heap.size, 0, none⟩ = some (.slice A k c) := (HI.out.blk.only hg7' (by omega)).cell 0
             have H7 : Hid (r.fn = (pFn (some l)).1 ∧ OwnF w7 wr.heap.size r ∧ Rdr w7 B g (pFn (some l)).2 ∧ wr.grownBy w7 (some g)) := ⟨hr, hof, h7, hg7'⟩
             have HA7 := Lib.hid (own_alloc (own_only HI.out.own hg7' hgl) (.cells #[.int .i64 r.fn.params, .slice r.lo r.fn.locals.length r.lc, .bool r.fn.result, .int .i64 r.fn.keep, .slice r.co r.fn.code.length r.cc] 43))
             have hz7 : w.heap.size ≤ w7.heap.size := Nat.le_trans HI.out.grown.size hg7'.size
             have hz6 : w6.heap.size < w7.heap.size := (HI.out.blk.only hg7' (by omega)).lt
             have c7a : ∀ o : Obj, (w7.alloc o).cell? ⟨w6.heap.size, 0, none⟩ = some (.slice A k c) := fun o => (World.cell?_alloc_lt w7 o _ hz6).trans c7
             clear hr hof h7 hg7 hg7'
             go_simp))
        all_goals
          go_wp2
          go_roundg (n - (k + 1))
          case measure => omega
          case rel => exact ⟨rs ++ [r], k + 1, A8, c8, _, by omega, HI8⟩
    · obtain rfl : n = k := by omega
      clear hlt hk
      have HD := Lib.hid (HI.out.done (by rw [Nat.sub_self]; rfl) s HPP.out hgl)
      go_wp2
      exact bodyPost_ret (v := .agg #[.slice A n c]) (by simp [results, Try.results20, go_sem, r0]) rfl HD.out
end Go.Proofs.Ytklfppeecgkpnaa
