/-
  KindsPointers: the walk.
-/
import Derived.Test.YtcgoanfhabjpfaaKLit
import Derived.Deep.DeepCutAuto
namespace Go.Proofs.Ytcgoanfhabjpfaa
set_option linter.unusedVariables false
open Go.ChangeShapes Go.WideShapes Go.ChangeAt Go.RowKit

def badI : List (List Ins) := [
  [⟨4, 0, 0⟩, ⟨29, 0, 0⟩, ⟨24, 0, 0⟩], [⟨4, 0, 0⟩, ⟨1, 0, 0⟩, ⟨7, 0, 0⟩, ⟨31, 0, 0⟩, ⟨24, 0, 0⟩], [⟨4, 0, 0⟩, ⟨26, 0, 0⟩], [⟨4, 0, 0⟩, ⟨30, 0, 0⟩],
  [⟨4, 0, 0⟩, ⟨22, 2, 0⟩, ⟨24, 0, 0⟩], [⟨1, 0, 0⟩, ⟨5, 0, 0⟩, ⟨31, 0, 0⟩, ⟨24, 0, 0⟩], [⟨1, 0, 0⟩, ⟨1, 0, 0⟩, ⟨6, 0, 0⟩, ⟨24, 0, 0⟩],
  [⟨4, 0, 0⟩, ⟨3, 0, 0⟩, ⟨24, 0, 0⟩], [⟨1, 0, 0⟩, ⟨3, 1, 0⟩, ⟨24, 0, 0⟩], [⟨4, 1, 0⟩, ⟨31, 0, 0⟩, ⟨24, 0, 0⟩], [⟨4, 0, 0⟩, ⟨4, 0, 0⟩, ⟨6, 0, 0⟩, ⟨24, 0, 0⟩],
  [⟨1, 0, 0⟩, ⟨23, 1, 0⟩, ⟨24, 0, 0⟩], [⟨1, 0, 0⟩, ⟨25, 1, 0⟩, ⟨24, 0, 0⟩]]
def goodI : List (List Ins) := [
  [⟨4, 0, 0⟩, ⟨3, 1, 0⟩, ⟨2, 1, 0⟩, ⟨5, 0, 0⟩, ⟨29, 0, 0⟩, ⟨24, 0, 0⟩], [⟨4, 0, 0⟩, ⟨32, 0, 0⟩, ⟨23, 1, 0⟩, ⟨25, 1, 0⟩, ⟨24, 0, 0⟩]]
def ptrF (is : List Ins) : Fn := ⟨0, [0, 1], false, -1, is⟩
def ptrG : Fn := ⟨1, [1], false, -1, [⟨24, 0, 0⟩]⟩
theorem bad_all : badI.all (fun is => verdC [ptrF is, ptrG] == some (50, [])) = true := by decide +kernel
theorem good_all : goodI.all (fun is => match verdC [ptrF is, ptrG] with | some (v, _) => v == 0 | none => false) = true := by decide +kernel
theorem bad_at {r : Nat} {is : List Ins} (h : badI[r]? = some is) : verdC [ptrF is, ptrG] = some (50, []) := by
  have := List.all_eq_true.1 bad_all is (List.mem_of_getElem? h)
  simpa using this
theorem good_at {r : Nat} {is : List Ins} (h : goodI[r]? = some is) : ∃ ls, verdC [ptrF is, ptrG] = some (0, ls) := by
  have := List.all_eq_true.1 good_all is (List.mem_of_getElem? h)
  split at this
  · rename_i v ls hv
    have h0 : v = 0 := by simpa using this
    exact ⟨ls, by rw [hv, h0]⟩
  · cases this
/-- rows of instructions, in blocks of their own -/
def RowI (iss : List (List Ins)) (B bb : Nat) (W : World) : Prop := B ≤ bb ∧ ∀ (r : Nat) is, iss[r]? = some is → ∃ q m, W.cell? ⟨bb, r, none⟩ = some (.slice (some ⟨q, 0, none⟩) m m) ∧ m = is.length ∧ q < W.heap.size ∧ Blk W q 51 (insc is).toArray
def allocs (W : World) : List Obj → World
  | [] => W
  | o :: os => allocs (W.alloc o) os
theorem allocs_size (os : List Obj) : ∀ W : World, (allocs W os).heap.size = W.heap.size + os.length := by
  induction os with
  | nil => intro W; rfl
  | cons o os ih => intro W; rw [allocs, ih, World.size_alloc, List.length_cons]; omega
theorem allocs_below (os : List Obj) : ∀ W : World, Below W.heap.size W (allocs W os) := by
  induction os with
  | nil => intro W; exact Below.refl _ _
  | cons o os ih => intro W; exact ((Below.refl _ _).alloc (Nat.le_refl _) o).trans ((ih _).mono (by simp))
theorem allocs_at (os : List Obj) : ∀ (W : World) (i : Nat) (o : Obj), os[i]? = some o → (allocs W os).heap[W.heap.size + i]? = some o := by
  induction os with
  | nil => intro W i o h; simp at h
  | cons p os ih =>
    intro W i o h
    cases i with
    | zero =>
      simp at h; subst h
      rw [allocs, Nat.add_zero]
      exact ((allocs_below os (W.alloc p)).block W.heap.size (by simp)).trans (heap_alloc_new W p)
    | succ i =>
      have := ih (W.alloc p) i o (by simpa using h)
      rw [World.size_alloc] at this
      rw [allocs, show W.heap.size + (i + 1) = W.heap.size + 1 + i by omega]
      exact this
def insO (iss : List (List Ins)) : List Obj := iss.map fun is => .cells (insc is).toArray 51
def insV (b : Nat) : Nat → List (List Ins) → List Value
  | _, [] => []
  | k, is :: iss => .slice (some ⟨b + k, 0, none⟩) is.length is.length :: insV b (k + 1) iss
theorem insV_at (b : Nat) : ∀ (iss : List (List Ins)) (k r : Nat) (is : List Ins), iss[r]? = some is → (insV b k iss)[r]? = some (.slice (some ⟨b + (k + r), 0, none⟩) is.length is.length) := by
  intro iss
  induction iss with
  | nil => intro k r is h; simp at h
  | cons x iss ih =>
    intro k r is h
    cases r with
    | zero => simp at h; subst h; rfl
    | succ r =>
      have := ih (k + 1) r is (by simpa using h)
      rw [show k + (r + 1) = k + 1 + r by omega]
      simpa [insV] using this
theorem rowI_lit (W : World) (S : Nat) (hS : W.heap.size = S) (iss : List (List Ins)) (B : Nat) (hB : B ≤ S) : RowI iss B (S + iss.length) ((allocs W (insO iss)).alloc (.cells (insV S 0 iss).toArray 45)) := by
  subst hS
  have hs : (allocs W (insO iss)).heap.size = W.heap.size + iss.length := by rw [allocs_size]; simp [insO]
  refine ⟨by omega, fun r is hr => ⟨W.heap.size + r, is.length, ?_, rfl, ?_, ?_⟩⟩
  · have h := (Blk.new (allocs W (insO iss)) 45 (insV W.heap.size 0 iss).toArray).cell r
    rw [hs] at h
    rw [h]
    have := insV_at W.heap.size iss 0 r is hr
    rw [Nat.zero_add] at this
    simpa using this
  · have := (List.getElem?_eq_some_iff.1 hr).1
    rw [World.size_alloc, hs]; omega
  · have h : Blk (allocs W (insO iss)) (W.heap.size + r) 51 (insc is).toArray := allocs_at _ W r _ (by unfold insO; rw [List.getElem?_map, hr]; rfl)
    exact h.alloc _
theorem rowI_below (W : World) (S : Nat) (hS : W.heap.size = S) (iss : List (List Ins)) : Below S W ((allocs W (insO iss)).alloc (.cells (insV S 0 iss).toArray 45)) ∧ S + iss.length < ((allocs W (insO iss)).alloc (.cells (insV S 0 iss).toArray 45)).heap.size := by
  subst hS
  have hs : (allocs W (insO iss)).heap.size = W.heap.size + iss.length := by rw [allocs_size]; simp [insO]
  exact ⟨(allocs_below _ W).alloc (by omega) _, by rw [World.size_alloc, hs]; omega⟩
theorem RowI.below {iss : List (List Ins)} {B bb : Nat} {W W' : World} (h : RowI iss B bb W) (hb : Below W.heap.size W W') (hl : bb < W.heap.size) : RowI iss B bb W' :=
  ⟨h.1, fun r is hr => by
    obtain ⟨q, m, h1, h2, h3, h4⟩ := h.2 r is hr
    exact ⟨q, m, (hb.cell (p := ⟨bb, r, none⟩) hl).trans h1, h2, by have := hb.size; omega, h4.below hb h3⟩⟩

theorem wf_lits : (badI ++ goodI).all (fun is => decide (is.length ≤ 10) && is.all fun i => decide (0 ≤ i.op ∧ i.op ≤ 255 ∧ 0 ≤ i.arg ∧ i.arg ≤ 100000 ∧ 0 ≤ i.imm ∧ i.imm ≤ 100000)) = true := by decide +kernel
theorem wf_of {is : List Ins} (h : is ∈ badI ++ goodI) : is.length ≤ 10 ∧ ∀ i ∈ is, WfI i := by
  have := List.all_eq_true.1 wf_lits is h
  rw [Bool.and_eq_true, List.all_eq_true] at this
  exact ⟨by simpa using this.1, fun i hi => wf_small (by simpa using this.2 i hi)⟩
def fC (S : Nat) (q m : Nat) : List Value := [.int .i64 0, .slice (some ⟨S, 0, none⟩) 2 2, .bool false, .int .i64 (-1), .slice (some ⟨q, 0, none⟩) m m]
def gC (S : Nat) : List Value := [.int .i64 1, .slice (some ⟨S + 2, 0, none⟩) 1 1, .bool false, .int .i64 (-1), .slice (some ⟨S + 3, 0, none⟩) 1 1]
/-- the two functions, wherever their row lies -/
theorem ptr_prog {W : World} {S q m g : Nat} {is : List Ins} (h0 : Blk W S 57 #[.int .u8 0, .int .u8 1]) (h2 : Blk W (S + 2) 57 #[.int .u8 1]) (h3 : Blk W (S + 3) 51 #[.int .u8 24, .int .i64 0, .int .u64 0]) (hq : Blk W q 51 (insc is).toArray) (hm : m = is.length)
    (hw : is.length ≤ 10 ∧ ∀ i ∈ is, WfI i) (hg : Blk W g 47 (fC S q m ++ gC S).toArray) : RdP W W.heap.size (some ⟨g, 0, none⟩) 2 [⟨ptrF is, some ⟨S, 0, none⟩, 2, some ⟨q, 0, none⟩, m⟩, ⟨ptrG, some ⟨S + 2, 0, none⟩, 1, some ⟨S + 3, 0, none⟩, 1⟩] := by
  subst hm
  have c1 : Byt [0, 1] := Byt.cons (by omega) (by omega) (Byt.cons (by omega) (by omega) Byt.nil)
  have c2 : Byt [1] := Byt.cons (by omega) (by omega) Byt.nil
  refine ⟨reads_blk (cs := fC S q is.length ++ gC S) hg rfl, rfl, fun r hr => ?_, fun r hr => ?_, by omega⟩
  · simp only [List.mem_cons, List.not_mem_nil, or_false] at hr
    rcases hr with rfl | rfl
    · exact ⟨reads_blk (cs := u8c [0, 1]) h0 rfl, reads_blk hq (by rw [length_insc]), Nat.le_refl _⟩
    · exact ⟨reads_blk (cs := u8c [1]) h2 rfl, reads_blk (cs := insc [⟨24, 0, 0⟩]) h3 rfl, Nat.le_refl _⟩
  · simp only [List.mem_cons, List.not_mem_nil, or_false] at hr
    rcases hr with rfl | rfl
    · exact ⟨by show (-9223372036854775808 : Int) ≤ 0; omega, by show (0 : Int) ≤ 9223372036854775807; omega, by show (-9223372036854775808 : Int) ≤ -1; omega, by show (-1 : Int) ≤ 9223372036854775807; omega, c1, hw.2, by show 2 ≤ _; omega, by show is.length * 24 ≤ _; omega⟩
    · refine ⟨by show (-9223372036854775808 : Int) ≤ 1; omega, by show (1 : Int) ≤ 9223372036854775807; omega, by show (-9223372036854775808 : Int) ≤ -1; omega, by show (-1 : Int) ≤ 9223372036854775807; omega, c2, ?_, by show 1 ≤ _; omega, by show 1 * 24 ≤ _; omega⟩
      intro i hi
      have : i = ⟨24, 0, 0⟩ := by simpa [ptrG] using hi
      rw [this]; exact wf_small (by decide)
def objs (S q m : Nat) : List Obj := [.cells #[.int .u8 0, .int .u8 1] 57, .cells (fC S q m).toArray 47, .cells #[.int .u8 1] 57, .cells #[.int .u8 24, .int .i64 0, .int .u64 0] 51, .cells (gC S).toArray 47, .cells (fC S q m ++ gC S).toArray 47]
/-- the world at the first call -/
theorem ptr_world {W : World} {S q m : Nat} {is : List Ins} (hS : W.heap.size = S) (hq : Blk W q 51 (insc is).toArray) (hm : m = is.length) (hw : is.length ≤ 10 ∧ ∀ i ∈ is, WfI i) :
    RdP (allocs W (objs S q m)) (S + 6) (some ⟨S + 5, 0, none⟩) 2 [⟨ptrF is, some ⟨S, 0, none⟩, 2, some ⟨q, 0, none⟩, m⟩, ⟨ptrG, some ⟨S + 2, 0, none⟩, 1, some ⟨S + 3, 0, none⟩, 1⟩] ∧
      Blk (allocs W (objs S q m)) S 57 #[.int .u8 0, .int .u8 1] ∧ Blk (allocs W (objs S q m)) (S + 1) 47 (fC S q m).toArray ∧ Blk (allocs W (objs S q m)) (S + 2) 57 #[.int .u8 1] ∧ Blk (allocs W (objs S q m)) (S + 3) 51 #[.int .u8 24, .int .i64 0, .int .u64 0] ∧ Blk (allocs W (objs S q m)) (S + 4) 47 (gC S).toArray ∧ (allocs W (objs S q m)).heap.size = S + 6 ∧ Below S W (allocs W (objs S q m)) := by
  subst hS
  have at_ : ∀ i o, (objs W.heap.size q m)[i]? = some o → (allocs W (objs W.heap.size q m)).heap[W.heap.size + i]? = some o := fun i o h => allocs_at _ W i o h
  have hs : (allocs W (objs W.heap.size q m)).heap.size = W.heap.size + 6 := by rw [allocs_size]; rfl
  have hb := allocs_below (objs W.heap.size q m) W
  have b0 : Blk (allocs W (objs W.heap.size q m)) W.heap.size 57 #[.int .u8 0, .int .u8 1] := at_ 0 _ rfl
  have b1 : Blk (allocs W (objs W.heap.size q m)) (W.heap.size + 1) 47 (fC W.heap.size q m).toArray := at_ 1 _ rfl
  have b2 : Blk (allocs W (objs W.heap.size q m)) (W.heap.size + 2) 57 #[.int .u8 1] := at_ 2 _ rfl
  have b3 : Blk (allocs W (objs W.heap.size q m)) (W.heap.size + 3) 51 #[.int .u8 24, .int .i64 0, .int .u64 0] := at_ 3 _ rfl
  have b4 : Blk (allocs W (objs W.heap.size q m)) (W.heap.size + 4) 47 (gC W.heap.size).toArray := at_ 4 _ rfl
  have b5 : Blk (allocs W (objs W.heap.size q m)) (W.heap.size + 5) 47 (fC W.heap.size q m ++ gC W.heap.size).toArray := at_ 5 _ rfl
  have h := ptr_prog b0 b2 b3 (hq.below hb hq.lt) hm hw b5
  rw [hs] at h
  exact ⟨h, b0, b1, b2, b3, b4, hs, hb⟩
set_option maxRecDepth 100000 in
set_option maxHeartbeats 6400000 in
theorem ptr_walk (x : Int) (w : World) :
    Calls Try.prog 7 #[.int .i64 x] w fun e w' => e = .returned (.bool true) ∧ Below w.heap.size w w' := by
  obtain ⟨y, hy, hy0⟩ : ∃ y : Int, IntKind.u64.wrap x = y ∧ 0 ≤ y := ⟨_, rfl, by rw [IntKind.wrap_u64]; omega⟩
  obtain ⟨r, hr, hr3⟩ : ∃ r : Nat, y % 13 = (r : Int) ∧ r < 13 := ⟨(y % 13).toNat, by omega, by omega⟩
  obtain ⟨r2, hr2, hr4⟩ : ∃ r2 : Nat, y % 2 = (r2 : Int) ∧ r2 < 2 := ⟨(y % 2).toNat, by omega, by omega⟩
  go_enter Try.func7, Try.ntmps7
  go_wp2_with (go_at_call 8; refine (first_any _).mono ?_; rintro e w1 ⟨rfl, hb1⟩; refine Hid.out ?_)
  have HB1 := Lib.hid hb1
  have hz1 := hb1.size
  clear hb1
  refine Lib.hid ?_
  go_upto_region 4 with fail
  go_cut [4] (fun s4 wx => ∃ bb, s4 = .slice (some ⟨bb, 0, none⟩) 13 13 ∧ bb < wx.heap.size ∧ Hid (RowI badI w.heap.size bb wx) ∧ Hid (Below (w1.heap.size + 1) (w1.alloc (.cells #[.int .u8 24, .int .i64 0, .int .u64 0] 51)) wx))
  case first =>
    go_wp2
    go_meet
    have hS : (w1.alloc (.cells #[.int .u8 24, .int .i64 0, .int .u64 0] 51)).heap.size = w1.heap.size + 1 := by simp
    exact ⟨_, rfl, (rowI_below _ _ hS badI).2, Lib.hid (rowI_lit _ _ hS badI w.heap.size (by omega)), Lib.hid (rowI_below _ _ hS badI).1⟩
  case rest =>
    obtain ⟨bb, rfl, hbb, HBAD, HBW⟩ := hcut
    have hzc := HBW.out.size
    rw [World.size_alloc] at hzc
    have HRT := Lib.hid ((Blk.new w1 51 #[.int .u8 24, .int .i64 0, .int .u64 0]).below HBW.out (by omega))
    have e0 : wc.cell? ⟨w1.heap.size, 0, none⟩ = some (.int .u8 24) := HRT.out.cell 0
    have e1 : wc.cell? ⟨w1.heap.size, 1, none⟩ = some (.int .i64 0) := HRT.out.cell 1
    have e2 : wc.cell? ⟨w1.heap.size, 2, none⟩ = some (.int .u64 0) := HRT.out.cell 2
    have HWC := Lib.hid ((HB1.out.alloc hz1 (.cells #[.int .u8 24, .int .i64 0, .int .u64 0] 51)).trans (HBW.out.mono (by omega)))
    have hlt : w1.heap.size < wc.heap.size := by omega
    go_upto_region 5 with fail
    obtain ⟨wd, rfl⟩ : ∃ wd : World, wd = wc := ⟨_, rfl⟩
    go_cut [5] (fun s5 wx => ∃ bg, s5 = .slice (some ⟨bg, 0, none⟩) 2 2 ∧ bg < wx.heap.size ∧ Hid (RowI goodI w.heap.size bg wx) ∧ Hid (Below wd.heap.size wd wx))
    case first =>
      go_wp2
      go_meet
      exact ⟨_, rfl, (rowI_below _ _ rfl goodI).2, Lib.hid (rowI_lit _ _ rfl goodI w.heap.size (by have := HWC.out.size; omega)), Lib.hid (rowI_below _ _ rfl goodI).1⟩
    case rest =>
      obtain ⟨bg, rfl, hbg, HGOOD, HBX⟩ := hcut
      have hzd := HBX.out.size
      have E0 : wc.cell? ⟨w1.heap.size, 0, none⟩ = some (.int .u8 24) := (HBX.out.cell (p := ⟨w1.heap.size, 0, none⟩) hlt).trans e0
      have E1 : wc.cell? ⟨w1.heap.size, 1, none⟩ = some (.int .i64 0) := (HBX.out.cell (p := ⟨w1.heap.size, 1, none⟩) hlt).trans e1
      have E2 : wc.cell? ⟨w1.heap.size, 2, none⟩ = some (.int .u64 0) := (HBX.out.cell (p := ⟨w1.heap.size, 2, none⟩) hlt).trans e2
      have HWX := Lib.hid (HWC.out.trans (HBX.out.mono HWC.out.size))
      obtain ⟨is, his⟩ : ∃ is, badI[r]? = some is := ⟨badI[r]'(by show r < 13; omega), List.getElem?_eq_getElem _⟩
      obtain ⟨is2, his2⟩ : ∃ is, goodI[r2]? = some is := ⟨goodI[r2]'(by show r2 < 2; omega), List.getElem?_eq_getElem _⟩
      obtain ⟨q, m, c0, hm, hq, hqb⟩ := (HBAD.out.below HBX.out hbb).2 r is his
      obtain ⟨q2, m2, c1, hm2, hq2, hqb2⟩ := HGOOD.out.2 r2 is2 his2
      have HBC : Hid (bb < wc.heap.size) := Lib.hid (by omega)
      have hbb' := HBC.out
      have hw1 := wf_of (List.mem_append.2 (.inl (List.mem_of_getElem? his)))
      have hw2 := wf_of (List.mem_append.2 (.inr (List.mem_of_getElem? his2)))
      have HPW := Lib.hid (ptr_world (rfl : wc.heap.size = wc.heap.size) hqb hm hw1)
      have HV1 := Lib.hid (bad_at his)
      obtain ⟨ls, hv2⟩ := good_at his2
      have HV2 := Lib.hid hv2
      have HQ2 := Lib.hid hqb2
      have HM2 := Lib.hid hm2
      have HW2 := Lib.hid hw2
      have hm10 : m ≤ 10 := by omega
      have hm20 : m2 ≤ 10 := by omega
      clear his his2 hqb hqb2 hm hm2 hw1 hw2 hv2 e0 e1 e2 HBAD HGOOD
      have hzw1 : w1.heap.size < wc.heap.size := by omega
      have hzw2 : w1.heap.size < wc.heap.size + 1 := by omega
      have hzw3 : w1.heap.size < wc.heap.size + 1 + 1 := by omega
      have HC1 := Lib.hid (check_known (wc.heap.size + 6) _ 2 2 _ _ _ _ HPW.out.1 (by have := HPW.out.2.2.2.2.2.2.1; omega) HV1.out)
      obtain ⟨sz, HSZ⟩ : ∃ sz, Hid (sz = wc.heap.size) := ⟨_, Lib.hid rfl⟩
      have hbw := HPW.out.2.2.2.2.2.2.2
      have HBW2 := Lib.hid hbw
      clear hbw
      go_wp2_with (go_at_call 10; refine HC1.out.mono ?_; rintro e w9 ⟨p, rfl, hb9, hp, _⟩; have hp' := hp (by decide); subst hp'; have HB9 := Lib.hid hb9; clear hb9 hp; refine Hid.out ?_)
      obtain ⟨_, b0, b1, b2, b3, b4, hs6, hbw⟩ := HPW.out
      have hb9 := HB9.out
      rw [hs6] at hb9
      have k0 := b0.below hb9 (by omega)
      have k1 := b1.below hb9 (by omega)
      have k2 := b2.below hb9 (by omega)
      have k3 := b3.below hb9 (by omega)
      have k4 := b4.below hb9 (by omega)
      have hz9 : wc.heap.size + 6 ≤ w9.heap.size := by have := hb9.size; omega
      have hwc9 : Below wc.heap.size wc w9 := hbw.trans (hb9.mono (by omega))
      have f0 : w9.cell? ⟨wc.heap.size + 1, 0, none⟩ = some (.int .i64 0) := k1.cell 0
      have f1 : w9.cell? ⟨wc.heap.size + 1, 1, none⟩ = some (.slice (some ⟨wc.heap.size, 0, none⟩) 2 2) := k1.cell 1
      have f2 : w9.cell? ⟨wc.heap.size + 1, 2, none⟩ = some (.bool false) := k1.cell 2
      have f3 : w9.cell? ⟨wc.heap.size + 1, 3, none⟩ = some (.int .i64 (-1)) := k1.cell 3
      have f4 : w9.cell? ⟨wc.heap.size + 1, 4, none⟩ = some (.slice (some ⟨q, 0, none⟩) m m) := k1.cell 4
      have ff : w9.frozen? ⟨wc.heap.size + 1, 4, none⟩ = false := k1.frozen 4
      have g0 : w9.cell? ⟨wc.heap.size + 1 + 1 + 1 + 1, 0, none⟩ = some (.int .i64 1) := k4.cell 0
      have g1 : w9.cell? ⟨wc.heap.size + 1 + 1 + 1 + 1, 1, none⟩ = some (.slice (some ⟨wc.heap.size + 1 + 1, 0, none⟩) 1 1) := k4.cell 1
      have g2 : w9.cell? ⟨wc.heap.size + 1 + 1 + 1 + 1, 2, none⟩ = some (.bool false) := k4.cell 2
      have g3 : w9.cell? ⟨wc.heap.size + 1 + 1 + 1 + 1, 3, none⟩ = some (.int .i64 (-1)) := k4.cell 3
      have g4 : w9.cell? ⟨wc.heap.size + 1 + 1 + 1 + 1, 4, none⟩ = some (.slice (some ⟨wc.heap.size + 1 + 1 + 1, 0, none⟩) 1 1) := k4.cell 4
      have c9 : w9.cell? ⟨bg, r2, none⟩ = some (.slice (some ⟨q2, 0, none⟩) m2 m2) := (hwc9.cell (p := ⟨bg, r2, none⟩) hbg).trans c1
      have kq := HQ2.out.below hwc9 hq2
      have hsS : (w9.setCell ⟨wc.heap.size + 1, 4, none⟩ (.slice (some ⟨q2, 0, none⟩) m2 m2)).heap.size = w9.heap.size := by simp [World.setCell]
      have HPR := Lib.hid (ptr_prog (W := (w9.setCell ⟨wc.heap.size + 1, 4, none⟩ (.slice (some ⟨q2, 0, none⟩) m2 m2)).alloc (.cells (fC wc.heap.size q2 m2 ++ gC wc.heap.size).toArray 47)) (g := w9.heap.size)
        ((k0.far (p := ⟨wc.heap.size + 1, 4, none⟩) (by show wc.heap.size ≠ wc.heap.size + 1; omega) _).alloc _) ((k2.far (p := ⟨wc.heap.size + 1, 4, none⟩) (by show wc.heap.size + 2 ≠ wc.heap.size + 1; omega) _).alloc _) ((k3.far (p := ⟨wc.heap.size + 1, 4, none⟩) (by show wc.heap.size + 3 ≠ wc.heap.size + 1; omega) _).alloc _)
        ((kq.far (p := ⟨wc.heap.size + 1, 4, none⟩) (by show q2 ≠ wc.heap.size + 1; omega) _).alloc _) HM2.out HW2.out (by have h := Blk.new (w9.setCell ⟨wc.heap.size + 1, 4, none⟩ (.slice (some ⟨q2, 0, none⟩) m2 m2)) 47 (fC wc.heap.size q2 m2 ++ gC wc.heap.size).toArray; rw [hsS] at h; exact h))
      have HC2 := Lib.hid (check_known _ _ 2 2 _ _ _ _ HPR.out (Nat.le_refl _) HV2.out)
      have HWF : Hid (Below w.heap.size w ((w9.setCell ⟨wc.heap.size + 1, 4, none⟩ (.slice (some ⟨q2, 0, none⟩) m2 m2)).alloc (.cells (fC wc.heap.size q2 m2 ++ gC wc.heap.size).toArray 47))) := Lib.hid (by
        have hsz := HWX.out.size
        exact ((HWX.out.trans (hwc9.mono hsz)).setCell (p := ⟨wc.heap.size + 1, 4, none⟩) (by show w.heap.size ≤ wc.heap.size + 1; omega) _).alloc (by rw [hsS]; omega) _)
      have HSS := Lib.hid hsS
      have hszw : w.heap.size ≤ w9.heap.size := by have := HWX.out.size; omega
      have hl1 : wc.heap.size + 1 < w9.heap.size := by omega
      have hl2 : wc.heap.size + 1 + 1 + 1 + 1 < w9.heap.size := by omega
      clear k0 k1 k2 k3 k4 kq b0 b1 b2 b3 b4 hs6 hbw hb9 hwc9 hsS c0 c1 E0 E1 E2
      refine Lib.hid ?_
      go_wp2_with (go_at_call 10; refine HC2.out.mono ?_; rintro e w10 ⟨p, rfl, hb10, _, _⟩; have HB10 := Lib.hid (HWF.out.trans (hb10.mono (by rw [World.size_alloc, HSS.out]; omega))); clear hb10)
      go_ret
      exact ⟨rfl, HB10.out⟩
end Go.Proofs.Ytcgoanfhabjpfaa
