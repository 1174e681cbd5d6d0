/-
  LiveLoops: the walk.
-/
import Derived.Test.YtmfdaeicbaibeaaDoorLRing
namespace Go.Proofs.YtmfdaeicbaibeaaDoor
set_option linter.unusedVariables false
set_option linter.unusedSimpArgs false
open Go.ChangeShapes Go.WideShapes Go.ChangeAt Go.RowKit

def lrn (n : Nd) : RN := ⟨n, none, 0⟩
/-- a ring under way -/
structure LoI (W0 : World) (z pf k a b i : Nat) (A : Option Addr) (c : Nat) (wr : World) : Prop where
  kd : Blk wr z 60 #[.int .u8 0]
  gr : Blk wr pf 37 #[.slice none 0 0, .slice (some ⟨z, 0, none⟩) 1 1, .int .i64 0, .slice none 0 0, .bool false, .int .i64 (-1), .slice A i c, .int .i64 0]
  own : wr.ownsRow (pf + 1) 64 12 (.slice A i c) i (rnc ((ringL k a b i).map lrn))
  below : Below W0.heap.size W0 wr
  lz : W0.heap.size ≤ z
  lp : z < pf
theorem LoI.start (w : World) (k a b : Nat) : LoI w w.heap.size (w.heap.size + 1) k a b 0 none 0 ((w.alloc (.cells #[.int .u8 0] 60)).alloc (.cells #[.slice none 0 0, .slice (some ⟨w.heap.size, 0, none⟩) 1 1, .int .i64 0, .slice none 0 0, .bool false, .int .i64 (-1), .slice none 0 0, .int .i64 0] 37)) := by
  have h := Blk.new (w.alloc (.cells #[.int .u8 0] 60)) 37 #[.slice none 0 0, .slice (some ⟨w.heap.size, 0, none⟩) 1 1, .int .i64 0, .slice none 0 0, .bool false, .int .i64 (-1), .slice none 0 0, .int .i64 0]
  rw [show (w.alloc (.cells #[.int .u8 0] 60)).heap.size = w.heap.size + 1 by simp] at h
  exact ⟨(Blk.new w _ _).alloc _, h, own_none _ _ _ _, ((Below.refl _ _).alloc (Nat.le_refl _) _).alloc (by simp) _, Nat.le_refl _, by omega⟩
theorem LoI.push {W0 wr w' : World} {z pf k a b i : Nat} {A : Option Addr} {c : Nat} {o1 o2 : Obj} {v' : Value} (h : LoI W0 z pf k a b i A c wr) (hown : w'.ownsRow (pf + 1) 64 12 v' (i + 1) (rnc ((ringL k a b i).map lrn) ++ rnOne (lrn (ringN k a b i)))) (hg : ((wr.alloc o1).alloc o2).grownBy w' (Value.slice A i c).ownBlock) :
    ∃ A' c', v' = .slice A' (i + 1) c' ∧ w'.frozen? ⟨pf, 6, none⟩ = false ∧ (∃ y, w'.cell? ⟨pf, 6, none⟩ = some y) ∧ Hid (LoI W0 z pf k a b (i + 1) A' c' (w'.setCell ⟨pf, 6, none⟩ v')) := by
  obtain ⟨A', c', rfl⟩ := own_slice hown
  have ho := own_alloc (own_alloc h.own o1) o2
  have hk := blk_grown ((h.kd.alloc o1).alloc o2) ho hg (by decide)
  have hr := blk_grown ((h.gr.alloc o1).alloc o2) ho hg (by decide)
  have hz := h.below.size
  have lz := h.lz
  have lp := h.lp
  have hpf := h.gr.lt
  have hb : Below W0.heap.size W0 w' := ((h.below.alloc hz o1).alloc (by simp; omega) o2).grown hg (by simp; omega) fun g he => by have := (own_block_le ho he).1; omega
  refine ⟨A', c', rfl, hr.frozen 6, ⟨_, hr.cell 6⟩, Lib.hid ⟨hk.far (p := ⟨pf, 6, none⟩) (by show z ≠ pf; omega) _, hr.set_ 6 (.slice A' (i + 1) c'), ?_, hb.setCell (p := ⟨pf, 6, none⟩) (by show W0.heap.size ≤ pf; omega) _, lz, lp⟩⟩
  rw [ringL_succ, List.map_append, rnc_append]
  have h1 := own_far hown hr (by decide) 6 (.slice A' (i + 1) c')
  simpa [rnc] using h1
theorem LoI.rd {W0 wr : World} {z pf k a b : Nat} {A : Option Addr} {c : Nat} (h : LoI W0 z pf k a b k A c wr) (hk0 : 0 < k) (hk : k ≤ 4096) {g B : Nat} (hg : Blk wr g 37 #[.slice none 0 0, .slice (some ⟨z, 0, none⟩) 1 1, .int .i64 0, .slice none 0 0, .bool false, .int .i64 (-1), .slice A k c, .int .i64 0]) (hB : wr.heap.size ≤ B) :
    RdP wr B (some ⟨g, 0, none⟩) 1 [⟨ringG k a b, none, 0, some ⟨z, 0, none⟩, 1, none, 0, A, c, (ringL k a b k).map lrn⟩] := by
  have hl : (ringG k a b).nodes.length = k := ringL_len _ _ _ _
  have hmem : ∀ i ∈ (ringL k a b k).map lrn, ∃ j, i = lrn (ringN k a b j) := by
    intro i hi
    obtain ⟨n, hn, rfl⟩ := List.mem_map.1 hi
    obtain ⟨j, _, rfl⟩ := List.mem_map.1 hn
    exact ⟨j, rfl⟩
  refine ⟨?_, rfl, fun r hr => ?_, fun r hr => ?_, by omega⟩
  · have h1 := blk_reads (size := 8) (n := 1) hg rfl (show g < B by have := hg.lt; omega)
    show Reads wr B 8 _ 1 (rgc [_])
    unfold rgc rgOne
    rw [List.flatMap_cons, List.flatMap_nil, List.append_nil, hl]
    exact h1
  · obtain rfl : r = _ := List.mem_singleton.1 hr
    refine ⟨Reads.none_, blk_reads (size := 1) (n := 1) h.kd rfl (by have := h.kd.lt; omega), Reads.none_, ⟨?_, ?_, fun i hi => ?_, fun i hi => ?_⟩, ?_, Nat.le_refl _⟩
    · rw [hl]
      exact (Reads.of_own h.own).more hB
    · rw [hl, List.length_map, ringL_len]
    · obtain ⟨j, rfl⟩ := hmem i hi
      exact ⟨Reads.none_, Nat.le_refl _⟩
    · obtain ⟨j, rfl⟩ := hmem i hi
      exact ring_wfn k a b j hk hk0
    · unfold nds
      rw [List.map_map]
      exact List.map_id _
  · obtain rfl : r = _ := List.mem_singleton.1 hr
    have z0 : I64 0 := ⟨by decide, by decide⟩
    have z1 : I64 (-1) := ⟨by decide, by decide⟩
    refine ⟨(fun x h => by cases h), (fun x h => by rw [List.mem_singleton.1 h]; exact ⟨by decide, by decide⟩), z0, (fun x h => by cases h), z1, (fun i hi => ?_), z0, show ([] : List Int).length * 8 ≤ 140737488351232 by decide, show ([0] : List Int).length ≤ 140737488351232 by decide, show ([] : List Int).length * 8 ≤ 140737488351232 by decide, by rw [hl]; omega⟩
    obtain ⟨j, _, rfl⟩ := List.mem_map.1 (show i ∈ (List.range k).map (ringN k a b) from hi)
    exact ring_wfn k a b j hk hk0
set_option maxRecDepth 100000 in
set_option maxHeartbeats 6400000 in
theorem loops_walk (n x y : Int) (w : World) (hT : TzTab w) : Calls Tryd.prog 5 #[.int .i64 n, .int .i64 x, .int .i64 y] w fun e w' => e = .returned (.bool true) ∧ Below w.heap.size w w' := by
  have HF := Lib.hid (lfirst_any w hT)
  have HT := Lib.hid hT
  have hU : ∀ v : Int, 0 ≤ IntKind.u64.wrap v := fun v => by rw [IntKind.wrap_u64]; omega
  obtain ⟨K0, gK⟩ : ∃ K0 : Nat, (IntKind.u64.wrap n).tmod 60 = (K0 : Int) := ⟨((IntKind.u64.wrap n).tmod 60).toNat, by have := hU n; rw [Int.tmod_eq_emod_of_nonneg this]; omega⟩
  have hK0 : K0 < 60 := by have := hU n; rw [Int.tmod_eq_emod_of_nonneg this] at gK; omega
  obtain ⟨k, hk⟩ : ∃ k, k = 3 + K0 := ⟨_, rfl⟩
  have gk : (3 : Int) + (K0 : Int) = (k : Int) := by omega
  have hk1 : 3 ≤ k ∧ k ≤ 62 := by omega
  have gu : IntKind.u64.wrap (k : Int) = (k : Int) := by rw [IntKind.wrap_u64]; omega
  have hm : ∀ v : Int, ∃ a : Nat, (IntKind.u64.wrap v).tmod (k : Int) = (a : Int) ∧ a < k := fun v => by
    have h1 := hU v
    rw [Int.tmod_eq_emod_of_nonneg h1]
    have h2 := Int.emod_nonneg (IntKind.u64.wrap v) (show (k : Int) ≠ 0 by omega)
    have h3 := Int.emod_lt_of_pos (IntKind.u64.wrap v) (show (0 : Int) < k by omega)
    exact ⟨((IntKind.u64.wrap v) % (k : Int)).toNat, by omega, by omega⟩
  obtain ⟨a, ga, hak⟩ := hm x
  obtain ⟨b, gb, hbk⟩ := hm y
  have gk0 : ((k : Int) == 0) = false := by simp; omega
  clear hU hm hK0 hk hT
  by_cases hab : a = b
  · have g0 : ((a : Int) == (b : Int)) = true := beq_iff_eq.2 (by omega)
    clear hab
    go_enter Tryd.func5, Tryd.ntmps5
    go_wp2_with (go_at_call 6; refine HF.out.mono ?_; rintro e w1 ⟨rfl, hb1⟩; have HB1 := Lib.hid hb1; clear hb1)
    go_region
    go_wp2
    go_ret
    exact ⟨rfl, HB1.out.drew⟩
  · have g0 : ((a : Int) == (b : Int)) = false := beq_eq_false_iff_ne.2 (by omega)
    have HAB := Lib.hid hab
    clear hab
    go_enter Tryd.func5, Tryd.ntmps5
    go_wp2_with (go_at_call 6; refine HF.out.mono ?_; rintro e w1 ⟨rfl, hb1⟩; have HB1 := Lib.hid hb1; clear hb1)
    go_region
    go_wp2
    have HI0 : Hid (LoI w1 w1.heap.size (w1.heap.size + 1) k a b 0 none 0 ((w1.alloc (.cells #[.int .u8 0] 60)).alloc (.cells #[.slice none 0 0, .slice (some ⟨w1.heap.size, 0, none⟩) 1 1, .int .i64 0, .slice none 0 0, .bool false, .int .i64 (-1), .slice none 0 0, .int .i64 0] 37)).drew) := Lib.hid (by
      have h := LoI.start w1 k a b
      exact ⟨h.kd.drew, h.gr.drew, h.own, h.below.drew, h.lz, h.lp⟩)
    obtain ⟨z, hz⟩ : ∃ z, z = w1.heap.size := ⟨_, rfl⟩
    obtain ⟨pf, hpf⟩ : ∃ p, p = z + 1 := ⟨_, rfl⟩
    rw [← hz] at HI0 ⊢
    rw [← hpf] at HI0 ⊢
    clear hz hpf
    go_loopw [42] (fun i wr => ∃ (j : Nat) (A : Option Addr) (c : Nat), j ≤ k ∧ i = .int .i64 j ∧ Hid (LoI w1 z pf k a b j A c wr)) (fun i _ => k - (intOf i).toNat)
    case atStart => exact ⟨0, none, 0, by omega, rfl, HI0⟩
    case round =>
      clear HI0
      obtain ⟨j, A, c, hj, rfl, HI⟩ := hrel
      by_cases hlt : j < k
      · have hzr := HI.out.below.size
        have hpr := HI.out.gr.lt
        have g6 : ∀ o, (wr.alloc o).cell? ⟨pf, 6, none⟩ = some (.slice A j c) := fun o => (HI.out.gr.alloc o).cell 6
        have g1 : ((j : Int) + 1).tmod (k : Int) = (((j + 1) % k : Nat) : Int) := nat_mod_int
        obtain ⟨x1, hx1⟩ : ∃ x : Nat, x = (j + 1) % k := ⟨_, rfl⟩
        have hxl : x1 < k := by rw [hx1]; exact Nat.mod_lt _ (by omega)
        rw [← hx1] at g1
        have HRN : ∀ op : Int, opR a b j = op → ringN k a b j = ⟨op, 0, 0, 0, 0, 0, 0, 0, 0, [], x1, 0⟩ := fun op h => by unfold ringN; rw [h, hx1]
        have HA : ∀ o, Hid ((wr.alloc o).ownsRow (pf + 1) 64 12 (.slice A j c) j (rnc ((ringL k a b j).map lrn))) := fun o => Lib.hid (own_alloc HI.out.own o)
        clear hx1
        rcases opR_cases a b j with ⟨h1, h2⟩ | ⟨h1, h2, h3⟩ | ⟨h1, h2, h3⟩
        · have e1 : ((j : Int) == (b : Int)) = true := beq_iff_eq.2 (by omega)
          have e2 : ((j : Int) == (a : Int)) = false := beq_eq_false_iff_ne.2 (by have := HAB.out; omega)
          have HN := Lib.hid (HRN _ h2)
          clear h1 h2 HRN
          have HRd : Hid (Reads ((wr.alloc (.cells #[.int .u8 17, .int .u8 0, .int .i64 0, .int .i64 0, .int .i64 0, .int .i64 0, .int .i64 0, .int .i64 0, .int .u64 0, .slice none 0 0, .int .i64 x1, .int .i64 0] 64)).alloc (.cells #[.int .u8 17, .int .u8 0, .int .i64 0, .int .i64 0, .int .i64 0, .int .i64 0, .int .i64 0, .int .i64 0, .int .u64 0, .slice none 0 0, .int .i64 x1, .int .i64 0] 64)) (wr.heap.size + 1 + 1) 12 (some ⟨wr.heap.size + 1, 0, none⟩) 1 (rnOne (lrn ⟨17, 0, 0, 0, 0, 0, 0, 0, 0, [], x1, 0⟩))) := Lib.hid (by
            have h := one_reads (wr.alloc (.cells #[.int .u8 17, .int .u8 0, .int .i64 0, .int .i64 0, .int .i64 0, .int .i64 0, .int .i64 0, .int .i64 0, .int .u64 0, .slice none 0 0, .int .i64 x1, .int .i64 0] 64)) 64 (rnOne (lrn ⟨17, 0, 0, 0, 0, 0, 0, 0, 0, [], x1, 0⟩)) 12 rfl
            rw [show (wr.alloc (.cells #[.int .u8 17, .int .u8 0, .int .i64 0, .int .i64 0, .int .i64 0, .int .i64 0, .int .i64 0, .int .i64 0, .int .u64 0, .slice none 0 0, .int .i64 x1, .int .i64 0] 64)).heap.size = wr.heap.size + 1 by simp] at h
            exact h)
          go_wp2_with (at_builtin; refine app_node rfl (.tmp 67) (.tmp 69) rfl (pf + 1) (.slice A j c) j (rnc ((ringL k a b j).map lrn)) rfl (own_alloc (HA _).out _) (wr.heap.size + 1 + 1) (some ⟨wr.heap.size + 1, 0, none⟩) 1 1 (rnOne (lrn ⟨17, 0, 0, 0, 0, 0, 0, 0, 0, [], x1, 0⟩)) rfl HRd.out (rnOne_one _) (by omega) (by simp; omega) ?_; intro v' w8 hown hgr hor; rw [← HN.out] at hown; obtain ⟨A8, c8, rfl, f8, ⟨y8, hy8⟩, HI8⟩ := HI.out.push hown hgr; clear hown hgr hor)
          go_roundw
          case rel => exact ⟨j + 1, A8, c8, by omega, by go_num, HI8⟩
          case measure => simp [intOf]; omega
        · have e1 : ((j : Int) == (b : Int)) = false := beq_eq_false_iff_ne.2 (by omega)
          have e2 : ((j : Int) == (a : Int)) = true := beq_iff_eq.2 (by omega)
          have HN := Lib.hid (HRN _ h3)
          clear h1 h2 h3 HRN
          have HRd : Hid (Reads ((wr.alloc (.cells #[.int .u8 1, .int .u8 0, .int .i64 0, .int .i64 0, .int .i64 0, .int .i64 0, .int .i64 0, .int .i64 0, .int .u64 0, .slice none 0 0, .int .i64 x1, .int .i64 0] 64)).alloc (.cells #[.int .u8 1, .int .u8 0, .int .i64 0, .int .i64 0, .int .i64 0, .int .i64 0, .int .i64 0, .int .i64 0, .int .u64 0, .slice none 0 0, .int .i64 x1, .int .i64 0] 64)) (wr.heap.size + 1 + 1) 12 (some ⟨wr.heap.size + 1, 0, none⟩) 1 (rnOne (lrn ⟨1, 0, 0, 0, 0, 0, 0, 0, 0, [], x1, 0⟩))) := Lib.hid (by
            have h := one_reads (wr.alloc (.cells #[.int .u8 1, .int .u8 0, .int .i64 0, .int .i64 0, .int .i64 0, .int .i64 0, .int .i64 0, .int .i64 0, .int .u64 0, .slice none 0 0, .int .i64 x1, .int .i64 0] 64)) 64 (rnOne (lrn ⟨1, 0, 0, 0, 0, 0, 0, 0, 0, [], x1, 0⟩)) 12 rfl
            rw [show (wr.alloc (.cells #[.int .u8 1, .int .u8 0, .int .i64 0, .int .i64 0, .int .i64 0, .int .i64 0, .int .i64 0, .int .i64 0, .int .u64 0, .slice none 0 0, .int .i64 x1, .int .i64 0] 64)).heap.size = wr.heap.size + 1 by simp] at h
            exact h)
          go_wp2_with (at_builtin; refine app_node rfl (.tmp 67) (.tmp 69) rfl (pf + 1) (.slice A j c) j (rnc ((ringL k a b j).map lrn)) rfl (own_alloc (HA _).out _) (wr.heap.size + 1 + 1) (some ⟨wr.heap.size + 1, 0, none⟩) 1 1 (rnOne (lrn ⟨1, 0, 0, 0, 0, 0, 0, 0, 0, [], x1, 0⟩)) rfl HRd.out (rnOne_one _) (by omega) (by simp; omega) ?_; intro v' w8 hown hgr hor; rw [← HN.out] at hown; obtain ⟨A8, c8, rfl, f8, ⟨y8, hy8⟩, HI8⟩ := HI.out.push hown hgr; clear hown hgr hor)
          go_roundw
          case rel => exact ⟨j + 1, A8, c8, by omega, by go_num, HI8⟩
          case measure => simp [intOf]; omega
        · have e1 : ((j : Int) == (b : Int)) = false := beq_eq_false_iff_ne.2 (by omega)
          have e2 : ((j : Int) == (a : Int)) = false := beq_eq_false_iff_ne.2 (by omega)
          have HN := Lib.hid (HRN _ h3)
          clear h1 h2 h3 HRN
          have HRd : Hid (Reads ((wr.alloc (.cells #[.int .u8 10, .int .u8 0, .int .i64 0, .int .i64 0, .int .i64 0, .int .i64 0, .int .i64 0, .int .i64 0, .int .u64 0, .slice none 0 0, .int .i64 x1, .int .i64 0] 64)).alloc (.cells #[.int .u8 10, .int .u8 0, .int .i64 0, .int .i64 0, .int .i64 0, .int .i64 0, .int .i64 0, .int .i64 0, .int .u64 0, .slice none 0 0, .int .i64 x1, .int .i64 0] 64)) (wr.heap.size + 1 + 1) 12 (some ⟨wr.heap.size + 1, 0, none⟩) 1 (rnOne (lrn ⟨10, 0, 0, 0, 0, 0, 0, 0, 0, [], x1, 0⟩))) := Lib.hid (by
            have h := one_reads (wr.alloc (.cells #[.int .u8 10, .int .u8 0, .int .i64 0, .int .i64 0, .int .i64 0, .int .i64 0, .int .i64 0, .int .i64 0, .int .u64 0, .slice none 0 0, .int .i64 x1, .int .i64 0] 64)) 64 (rnOne (lrn ⟨10, 0, 0, 0, 0, 0, 0, 0, 0, [], x1, 0⟩)) 12 rfl
            rw [show (wr.alloc (.cells #[.int .u8 10, .int .u8 0, .int .i64 0, .int .i64 0, .int .i64 0, .int .i64 0, .int .i64 0, .int .i64 0, .int .u64 0, .slice none 0 0, .int .i64 x1, .int .i64 0] 64)).heap.size = wr.heap.size + 1 by simp] at h
            exact h)
          go_wp2_with (at_builtin; refine app_node rfl (.tmp 67) (.tmp 69) rfl (pf + 1) (.slice A j c) j (rnc ((ringL k a b j).map lrn)) rfl (own_alloc (HA _).out _) (wr.heap.size + 1 + 1) (some ⟨wr.heap.size + 1, 0, none⟩) 1 1 (rnOne (lrn ⟨10, 0, 0, 0, 0, 0, 0, 0, 0, [], x1, 0⟩)) rfl HRd.out (rnOne_one _) (by omega) (by simp; omega) ?_; intro v' w8 hown hgr hor; rw [← HN.out] at hown; obtain ⟨A8, c8, rfl, f8, ⟨y8, hy8⟩, HI8⟩ := HI.out.push hown hgr; clear hown hgr hor)
          go_roundw
          case rel => exact ⟨j + 1, A8, c8, by omega, by go_num, HI8⟩
          case measure => simp [intOf]; omega
      · obtain hjk : j = k := by omega
        rw [hjk] at HI
        have v0 : wr.cell? ⟨pf, 0, none⟩ = some (.slice none 0 0) := HI.out.gr.cell 0
        have v1 : wr.cell? ⟨pf, 1, none⟩ = some (.slice (some ⟨z, 0, none⟩) 1 1) := HI.out.gr.cell 1
        have v2 : wr.cell? ⟨pf, 2, none⟩ = some (.int .i64 0) := HI.out.gr.cell 2
        have v3 : wr.cell? ⟨pf, 3, none⟩ = some (.slice none 0 0) := HI.out.gr.cell 3
        have v4 : wr.cell? ⟨pf, 4, none⟩ = some (.bool false) := HI.out.gr.cell 4
        have v5 : wr.cell? ⟨pf, 5, none⟩ = some (.int .i64 (-1)) := HI.out.gr.cell 5
        have v6 : wr.cell? ⟨pf, 6, none⟩ = some (.slice A k c) := HI.out.gr.cell 6
        have v7 : wr.cell? ⟨pf, 7, none⟩ = some (.int .i64 0) := HI.out.gr.cell 7
        have hb5 : Below wr.heap.size wr (wr.alloc (.cells #[.slice none 0 0, .slice (some ⟨z, 0, none⟩) 1 1, .int .i64 0, .slice none 0 0, .bool false, .int .i64 (-1), .slice A k c, .int .i64 0] 37)) := (Below.refl _ _).alloc (Nat.le_refl _) _
        have hg5 := Blk.new wr 37 #[.slice none 0 0, .slice (some ⟨z, 0, none⟩) 1 1, .int .i64 0, .slice none 0 0, .bool false, .int .i64 (-1), .slice A k c, .int .i64 0]
        have hi5 : LoI w1 z pf k a b k A c (wr.alloc (.cells #[.slice none 0 0, .slice (some ⟨z, 0, none⟩) 1 1, .int .i64 0, .slice none 0 0, .bool false, .int .i64 (-1), .slice A k c, .int .i64 0] 37)) := ⟨HI.out.kd.alloc _, HI.out.gr.alloc _, own_alloc HI.out.own _, HI.out.below.alloc HI.out.below.size _, HI.out.lz, HI.out.lp⟩
        have HIN := Lib.hid (in_live _ (some ⟨wr.heap.size, 0, none⟩) 1 1 _ 0 _ (hi5.rd (by omega) (by omega) hg5 (Nat.le_refl _)) (Nat.le_refl _) ((HT.out.below HB1.out).below hi5.below))
        have HBI := Lib.hid (HB1.out.trans (hi5.below.mono HB1.out.size))
        have HV : Hid (valid (grs [⟨ringG k a b, none, 0, some ⟨z, 0, none⟩, 1, none, 0, A, c, (ringL k a b k).map lrn⟩]) false) := Lib.hid (ring_valid (by omega) (by omega))
        clear hb5 hg5 hi5
        go_wp2_with (go_at_call 7; refine HIN.out.mono ?_; rintro e w2 hl; obtain ⟨hb2, O, vs, rfl, hO, hr2⟩ := hl.ok (k := 0) (g := ringG k a b) HV.out rfl; rw [show (ringG k a b).nodes.length = k from ringL_len _ _ _ _] at hr2 ⊢; have HB2 := Lib.hid (HBI.out.trans (hb2.mono HBI.out.size)); have HR2 : Hid (RdL w2 _ O k vs (liveL (ringL k a b k) 1)) := Lib.hid hr2; clear hb2 hr2 hl)
        obtain ⟨B2, hB2⟩ : ∃ B, B = (wr.alloc (.cells #[.slice none 0 0, .slice (some ⟨z, 0, none⟩) 1 1, .int .i64 0, .slice none 0 0, .bool false, .int .i64 (-1), .slice A k c, .int .i64 0] 37)).heap.size := ⟨_, rfl⟩
        have HR3 : Hid (RdL w2 B2 O k vs (liveL (ringL k a b k) 1)) := Lib.hid (by rw [hB2]; exact HR2.out)
        clear hB2 HR2 HIN HBI HV v0 v1 v2 v3 v4 v5 v6 v7 HI
        go_loopw [89] (fun s wr => ∃ i : Nat, i ≤ k ∧ s = .int .i64 i ∧ Hid (RdL wr B2 O k vs (liveL (ringL k a b k) 1)) ∧ Hid (Below w.heap.size w wr)) (fun s _ => k - (intOf s).toNat)
        case atStart => exact ⟨0, by omega, rfl, HR3, HB2⟩
        case round =>
          clear HR3 HB2
          obtain ⟨i, hi, rfl, HR, HB⟩ := hrel
          by_cases hlt2 : i < k
          · have d1 := dst_mod (k := k) (t := b) (i := i) hlt2 hbk
            have d2 := dst_mod (k := k) (t := a) (i := i) hlt2 hak
            have hle := ring_len hak hbk HAB.out hlt2
            obtain ⟨Ai, ci, hc⟩ := HR.out.at_ hlt2
            have hself : i = a → dst k a i = 0 := fun e => by rw [e, dst_self]
            obtain ⟨Db, hDb⟩ : ∃ D, D = dst k b i := ⟨_, rfl⟩
            obtain ⟨Da, hDa⟩ : ∃ D, D = dst k a i := ⟨_, rfl⟩
            rw [← hDb] at d1 hle
            rw [← hDa] at d2 hle hself
            clear hDb hDa
            by_cases hon : Db < Da
            · rw [if_pos hon] at hle
              rw [hle] at hc
              have gl : decide ((Db : Int) < (Da : Int)) = true := decide_eq_true (by omega)
              have gl' : decide (Db < Da) = true := decide_eq_true hon
              have e1 : ((i : Int) == (a : Int)) = false := beq_eq_false_iff_ne.2 (fun e => by have := hself (by omega); omega)
              clear hle hself hon
              go_wp2
              go_region
              go_wp2
              go_roundw
              case rel => exact ⟨i + 1, by omega, by go_num, Lib.hid ⟨HR.out.row.drew, HR.out.own⟩, Lib.hid HB.out.drew⟩
              case measure => simp [intOf]; omega
            · rw [if_neg hon] at hle
              rw [hle] at hc
              have gl : decide ((Db : Int) < (Da : Int)) = false := decide_eq_false (by omega)
              have gl' : decide (Db < Da) = false := decide_eq_false hon
              clear hle hself hon
              by_cases hia : i = a
              · have e1 : ((i : Int) == (a : Int)) = true := beq_iff_eq.2 (by omega)
                clear hia
                go_wp2
                go_region
                go_wp2
                go_roundw
                case rel => exact ⟨i + 1, by omega, by go_num, Lib.hid ⟨HR.out.row.drew, HR.out.own⟩, Lib.hid HB.out.drew⟩
                case measure => simp [intOf]; omega
              · have e1 : ((i : Int) == (a : Int)) = false := beq_eq_false_iff_ne.2 (by omega)
                clear hia
                go_wp2
                go_region
                go_wp2
                go_roundw
                case rel => exact ⟨i + 1, by omega, by go_num, Lib.hid ⟨HR.out.row.drew, HR.out.own⟩, Lib.hid HB.out.drew⟩
                case measure => simp [intOf]; omega
          · go_wp2
            go_ret
            exact ⟨rfl, HB.out⟩
end Go.Proofs.YtmfdaeicbaibeaaDoor
