/-
  The walk through TextNames.
-/
import Derived.Test.YtfadcoimeocjiaaDoorTPre
namespace Go.Proofs.YtfadcoimeocjiaaDoor
set_option linter.unusedVariables false
open Go.ChangeShapes Go.WideShapes Go.ChangeAt Go.RowKit

/-- a program of one instruction -/
def oneP (i : Ins) : List Fn := [⟨0, [], false, -1, [i]⟩]
theorem oneP_ok (i : Ins) : okP (oneP i) = okI i := by
  unfold oneP okP okF
  simp
theorem okI_zero {o : Int} (h1 : 1 ≤ o) (h2 : o ≤ 32) : okI ⟨o, 0, 0⟩ = true := by
  rw [okI_iff']
  simp only
  exact ⟨⟨h1, h2⟩, ⟨by omega, Int.pow_pos (by decide)⟩, by omega, Int.pow_pos (by decide)⟩
def fitsB (o v : Int) : Bool := decide (v = 0 ∨ o = 1 ∨ o = 21 ∨ o = 22 ∨ (v < 256 ∧ (o = 2 ∨ o = 3 ∨ o = 4 ∨ o = 23 ∨ o = 25)))
theorem fits_one {v : Int} (h0 : 0 ≤ v) (h1 : v ≤ 65535) : okI ⟨1, 0, v⟩ = fitsB 1 v := by
  have e : fitsB 1 v = true := by simp [fitsB]
  rw [e, okI_iff']
  simp only
  exact ⟨⟨by decide, by decide⟩, ⟨by decide, by decide⟩, h0, by
    show v < 256 ^ immW 1
    rw [show immW 1 = 8 from rfl]; omega⟩
theorem fits_other {o v : Int} (h0 : 0 ≤ v) (h1 : v ≤ 65535) (o1 : 1 ≤ o) (o2 : o ≤ 32) (hn : o ≠ 1) : okI ⟨o, v, 0⟩ = fitsB o v := by
  rw [Bool.eq_iff_iff, okI_iff']
  unfold fitsB
  rw [decide_eq_true_iff]
  have hi : immW o = 0 := by unfold immW; rw [if_neg hn]
  simp only [hi]
  by_cases ha : o = 2 ∨ o = 3 ∨ o = 4 ∨ o = 23 ∨ o = 25
  · have e : argW o = 1 := by unfold argW; rw [if_pos ha]
    rw [e]
    constructor
    · rintro ⟨_, ⟨_, h⟩, _⟩; exact .inr (.inr (.inr (.inr ⟨by omega, ha⟩)))
    · intro h
      refine ⟨⟨o1, o2⟩, ⟨h0, ?_⟩, by decide, by decide⟩
      rcases h with h | h | h | h | h <;> omega
  · by_cases hb : o = 21 ∨ o = 22
    · have e : argW o = 2 := by unfold argW; rw [if_neg ha, if_pos hb]
      rw [e]
      constructor
      · intro _; rcases hb with h | h
        · exact .inr (.inr (.inl h))
        · exact .inr (.inr (.inr (.inl h)))
      · intro _; exact ⟨⟨o1, o2⟩, ⟨h0, by omega⟩, by decide, by decide⟩
    · have e : argW o = 0 := by unfold argW; rw [if_neg ha, if_neg hb]
      rw [e]
      constructor
      · rintro ⟨_, ⟨_, h⟩, _⟩; exact .inl (by omega)
      · intro h
        refine ⟨⟨o1, o2⟩, ⟨h0, ?_⟩, by decide, by decide⟩
        rcases h with h | h | h | h | h
        · omega
        · exact absurd h hn
        · exact absurd (.inl h) hb
        · exact absurd (.inr h) hb
        · exact absurd h.2 ha
theorem print_one_inj {a b : Int} (ha : okI ⟨a, 0, 0⟩ = true) (hb : okI ⟨b, 0, 0⟩ = true) : (str (printT (oneP ⟨a, 0, 0⟩)) = str (printT (oneP ⟨b, 0, 0⟩))) ↔ a = b := by
  constructor
  · intro h
    have h1 := parse_print (oneP ⟨a, 0, 0⟩) (okP_fns (by rw [oneP_ok]; exact ha))
    have h2 := parse_print (oneP ⟨b, 0, 0⟩) (okP_fns (by rw [oneP_ok]; exact hb))
    rw [str_inj h, h2] at h1
    injection h1 with h1
    unfold oneP at h1
    injection h1 with h1
    injection h1 with _ _ _ _ h1
    injection h1 with h1
    injection h1 with h1
    exact h1.symm
  · intro h; rw [h]
/-- the world with a program of one instruction laid in it -/
theorem one_rdp (w : World) (B : Nat) (hB : B = w.heap.size + 2) (o a m : Int) (ho0 : 0 ≤ o) (ho : o ≤ 255) (ha0 : 0 ≤ a) (ha : a ≤ 65535) (hm0 : 0 ≤ m) (hm : m ≤ 65535) :
    RdP ((w.alloc (.cells #[.int .u8 o, .int .i64 a, .int .u64 m] 42)).alloc (.cells #[.int .i64 0, .slice none 0 0, .bool false, .int .i64 (-1), .slice (some ⟨w.heap.size, 0, none⟩) 1 1] 46)) B (some ⟨w.heap.size + 1, 0, none⟩) 1
      [⟨⟨0, [], false, -1, [⟨o, a, m⟩]⟩, none, 0, some ⟨w.heap.size, 0, none⟩, 1⟩] := by
  subst hB
  have e1 := blk_second w 42 46 #[.int .u8 o, .int .i64 a, .int .u64 m] #[.int .i64 0, .slice none 0 0, .bool false, .int .i64 (-1), .slice (some ⟨w.heap.size, 0, none⟩) 1 1]
  have e0 : Blk ((w.alloc (.cells #[.int .u8 o, .int .i64 a, .int .u64 m] 42)).alloc (.cells #[.int .i64 0, .slice none 0 0, .bool false, .int .i64 (-1), .slice (some ⟨w.heap.size, 0, none⟩) 1 1] 46)) w.heap.size 42 #[.int .u8 o, .int .i64 a, .int .u64 m] := (Blk.new w _ _).alloc _
  have eadd : ∀ b j : Nat, (⟨b, 0, none⟩ : Addr).add j = ⟨b, j, none⟩ := fun b j => by simp only [Addr.add]; split <;> simp_all
  refine ⟨⟨by simp [rawc, rawOne], fun _ => ⟨_, rfl, by simp, fun j u hj => ?_⟩⟩, rfl, ?_, ?_, by omega⟩
  · rw [eadd, e1.cell]
    simpa [rawc, rawOne] using hj
  · intro r hr
    simp only [List.mem_singleton] at hr
    subst hr
    refine ⟨⟨by simp [u8c], fun h => by simp at h⟩, ⟨by simp [insc, insOne], fun _ => ⟨_, rfl, by simp, fun j u hj => ?_⟩⟩⟩
    rw [eadd, e0.cell]
    simpa [insc, insOne] using hj
  · intro r hr
    simp only [List.mem_singleton] at hr
    subst hr
    refine ⟨by simp, by simp, by simp, by simp, Byt.nil, ?_, by simp, by simp⟩
    intro i hi
    simp only [List.mem_singleton] at hi
    subst hi
    exact ⟨ho0, ho, by simp only; omega, by simp only; omega, hm0, by simp only; omega⟩

/-- Print of a program of one instruction, laid behind W -/
theorem print_one (W : World) (o a m : Int) (b1 b2 : Nat) (hb1 : b1 = W.heap.size) (hb2 : b2 = W.heap.size + 1) (ho0 : 0 ≤ o) (ho : o ≤ 255) (ha0 : 0 ≤ a) (ha : a ≤ 65535) (hm0 : 0 ≤ m) (hm : m ≤ 65535) (S : ByteArray) (pe : Int) (hS : S = str (if okI ⟨o, a, m⟩ then printT (oneP ⟨o, a, m⟩) else [])) (hpe : pe = if okI ⟨o, a, m⟩ then 0 else 30)
    (B : Nat) (hB : B ≤ W.heap.size) (hE : ∀ W2, Below B W W2 → Env W2.heap.size W2) :
    Calls Tryd.prog 12 #[.agg #[.slice (some ⟨b2, 0, none⟩) 1 1]] ((W.alloc (.cells #[.int .u8 o, .int .i64 a, .int .u64 m] 42)).alloc (.cells #[.int .i64 0, .slice none 0 0, .bool false, .int .i64 (-1), .slice (some ⟨b1, 0, none⟩) 1 1] 46))
      fun e w' => e = .returned (.tuple #[.string S, .int .i64 pe]) ∧ Below B W w' ∧ W.heap.size + 2 ≤ w'.heap.size := by
  subst hb1 hb2
  have hb : Below B W ((W.alloc (.cells #[.int .u8 o, .int .i64 a, .int .u64 m] 42)).alloc (.cells #[.int .i64 0, .slice none 0 0, .bool false, .int .i64 (-1), .slice (some ⟨W.heap.size, 0, none⟩) 1 1] 46)) := ((Below.refl _ _).alloc hB _).alloc (by simp; omega) _
  refine (print_S (W.heap.size + 2) (some ⟨W.heap.size + 1, 0, none⟩) 1 1 [⟨⟨0, [], false, -1, [⟨o, a, m⟩]⟩, none, 0, some ⟨W.heap.size, 0, none⟩, 1⟩] S pe ?_ ?_ _ (one_rdp W _ rfl o a m ho0 ho ha0 ha hm0 hm) (by simp) (hE _ hb)).mono ?_
  · rw [hS, ← oneP_ok]; rfl
  · rw [hpe, ← oneP_ok]; rfl
  · rintro e w' ⟨rfl, hb2⟩
    have hs := hb2.size
    simp at hs
    exact ⟨rfl, hb.trans (hb2.mono (by simp; omega)), by omega⟩
theorem str_eqb' (a b : List UInt8) : ((str a).toList == (str b).toList) = decide (a = b) := by
  rw [str_toList, str_toList, Bool.eq_iff_iff, beq_iff_eq, decide_eq_true_iff]
def NamesPost (w : World) (e : Ending) (w' : World) : Prop := e = .returned (.bool true) ∧ Below w.heap.size w w'
theorem below_keep {B : Nat} {W w' : World} (hb : Below B W w') {a : Addr} {v : Value} (ha : a.block < B) (h : W.cell? a = some v) : w'.cell? a = some v := (hb.cell ha).trans h

set_option maxRecDepth 100000 in
set_option maxHeartbeats 16000000 in
theorem names_walk (xa xb xv : Int) (w : World) (ha0 : 0 ≤ xa) (ha1 : xa ≤ 255) (hb0 : 0 ≤ xb) (hb1 : xb ≤ 255) (hv0 : 0 ≤ xv) (hv1 : xv ≤ 65535) (hE : Env w.heap.size w) :
    Calls Tryd.prog 5 #[.int .u8 xa, .int .u8 xb, .int .u16 xv] w (NamesPost w) := by
  have HE := Lib.hid hE
  clear hE
  obtain ⟨ra, hra, ra0, ra1⟩ : ∃ r : Int, xa % 32 = r ∧ 0 ≤ r ∧ r ≤ 31 := ⟨_, rfl, by omega, by omega⟩
  obtain ⟨rb, hrb, rb0, rb1⟩ : ∃ r : Int, xb % 32 = r ∧ 0 ≤ r ∧ r ≤ 31 := ⟨_, rfl, by omega, by omega⟩
  obtain ⟨oa, hoa, oa0, oa1⟩ : ∃ r : Int, 1 + ra = r ∧ 1 ≤ r ∧ r ≤ 32 := ⟨_, rfl, by omega, by omega⟩
  obtain ⟨ob, hob, ob0, ob1⟩ : ∃ r : Int, 1 + rb = r ∧ 1 ≤ r ∧ r ≤ 32 := ⟨_, rfl, by omega, by omega⟩
  have HOA := Lib.hid hoa
  have HOB := Lib.hid hob
  obtain ⟨S, hS⟩ : ∃ S, Hid (S = str (if okI ⟨oa, 0, 0⟩ then printT (oneP ⟨oa, 0, 0⟩) else [])) := ⟨_, rfl⟩
  obtain ⟨T, hT⟩ : ∃ S, Hid (S = str (if okI ⟨ob, 0, 0⟩ then printT (oneP ⟨ob, 0, 0⟩) else [])) := ⟨_, rfl⟩
  have HSP : Hid (S = str (printT (oneP ⟨oa, 0, 0⟩))) := Lib.hid (by rw [hS.out, okI_zero oa0 oa1]; rfl)
  have HTP : Hid (T = str (printT (oneP ⟨ob, 0, 0⟩))) := Lib.hid (by rw [hT.out, okI_zero ob0 ob1]; rfl)
  have HPE1 : Hid ((0 : Int) = if okI ⟨oa, 0, 0⟩ then 0 else 30) := Lib.hid (by rw [okI_zero oa0 oa1]; rfl)
  have HPE2 : Hid ((0 : Int) = if okI ⟨ob, 0, 0⟩ then 0 else 30) := Lib.hid (by rw [okI_zero ob0 ob1]; rfl)
  have HEV : Hid (∀ B W, w.heap.size ≤ B → Below w.heap.size w W → ∀ W2, Below B W W2 → Env W2.heap.size W2) := Lib.hid (fun B W hB hb W2 hb2 => HE.out.at_ (hb.trans (hb2.mono hB)) (hb.trans (hb2.mono hB)).size)
  obtain ⟨fb, HFB⟩ : ∃ fb, Hid (fb = fitsB oa xv) := ⟨_, rfl⟩
  go_enter Tryd.func5, Tryd.ntmps5
  go_wp2_with (go_at_call 8; refine (first_any _ (HE.out)).mono ?_; rintro e w1 ⟨rfl, hb1⟩; refine Hid.out ?_)
  have HB1 := Lib.hid hb1
  have hz1 : w.heap.size ≤ w1.heap.size := hb1.size
  have HBB : Hid (Below w.heap.size w ((w1.alloc (.cells #[.int .u8 oa, .int .i64 0, .int .u64 0] 42)).alloc (.cells #[.int .u8 ob, .int .i64 0, .int .u64 0] 42))) := Lib.hid ((hb1.alloc hz1 _).alloc (by simp; omega) _)
  have HC7 : Hid (Blk ((w1.alloc (.cells #[.int .u8 oa, .int .i64 0, .int .u64 0] 42)).alloc (.cells #[.int .u8 ob, .int .i64 0, .int .u64 0] 42)) w1.heap.size 42 #[.int .u8 oa, .int .i64 0, .int .u64 0]) := Lib.hid ((Blk.new w1 _ _).alloc _)
  have HC8 : Hid (Blk ((w1.alloc (.cells #[.int .u8 oa, .int .i64 0, .int .u64 0] 42)).alloc (.cells #[.int .u8 ob, .int .i64 0, .int .u64 0] 42)) (w1.heap.size + 1) 42 #[.int .u8 ob, .int .i64 0, .int .u64 0]) := Lib.hid (blk_second w1 _ _ _ _)
  clear hb1
  refine Lib.hid ?_
  go_wp2_with (go_at_call 12; refine (print_one _ oa 0 0 _ _ (by simp) (by simp) (by omega) (by omega) (by omega) (by omega) (by omega) (by omega) S 0 hS.out HPE1.out (w1.heap.size + 2) (by simp) (HEV.out _ _ (by omega) HBB.out)).mono ?_; rintro e w2 ⟨rfl, hb2, hs2⟩; refine Hid.out ?_)
  have hz2 : w1.heap.size + 2 ≤ w2.heap.size := by simp at hs2; omega
  have HB2 := Lib.hid (HBB.out.trans (hb2.mono (by omega)))
  have HD7 := Lib.hid (HC7.out.below hb2 (by omega))
  have HD8 := Lib.hid (HC8.out.below hb2 (by omega))
  have c0 : w2.cell? ⟨w1.heap.size + 1, 0, none⟩ = some (.int .u8 ob) := HD8.out.cell 0
  have c1 : w2.cell? ⟨w1.heap.size + 1, 1, none⟩ = some (.int .i64 0) := HD8.out.cell 1
  have c2 : w2.cell? ⟨w1.heap.size + 1, 2, none⟩ = some (.int .u64 0) := HD8.out.cell 2
  clear hb2 hs2
  refine Lib.hid ?_
  go_wp2_with (go_at_call 12; refine (print_one _ ob 0 0 _ _ (by simp) (by simp) (by omega) (by omega) (by omega) (by omega) (by omega) (by omega) T 0 hT.out HPE2.out (w1.heap.size + 2) (by omega) (HEV.out _ _ (by omega) HB2.out)).mono ?_; rintro e w3 ⟨rfl, hb3, hs3⟩; refine Hid.out ?_)
  have hz3 : w1.heap.size + 2 ≤ w3.heap.size := by omega
  have HB3 := Lib.hid (HB2.out.trans (hb3.mono (by omega)))
  have HE7 := Lib.hid (HD7.out.below hb3 (by omega))
  clear hb3 hs3 c0 c1 c2 HD7 HD8 HC7 HC8
  have HPY : Hid (Calls Tryd.prog 9 #[.string S] w3 fun e w' => ∃ (A7 : Option Addr) (n7 c7 : Nat) (xs : List Raw), fns xs = oneP ⟨oa, 0, 0⟩ ∧ e = .returned (.tuple #[.agg #[.slice A7 n7 c7], .int .i64 0, .int .i64 0]) ∧ RdN w3.heap.size w' A7 n7 xs ∧ n7 ≤ c7 ∧ Below w3.heap.size w3 w') := Lib.hid (by
    have hok : okP (oneP ⟨oa, 0, 0⟩) = true := by rw [oneP_ok]; exact okI_zero oa0 oa1
    have hl := printT_len hok
    rw [HSP.out]
    exact parse_new _ _ (parse_print _ (okP_fns hok)) (by omega) w3 (HE.out.at_ HB3.out HB3.out.size))
  refine Lib.hid ?_
  go_wp2_with (go_at_call 9; refine HPY.out.mono ?_; rintro e w4 ⟨A7, n7, c7, xs, hx, rfl, hr7, hn7, hb4⟩; refine Hid.out ?_)
  match xs, hx with
  | [], hx => exact absurd hx (by simp [fns, oneP])
  | _ :: _ :: _, hx => exact absurd hx (by simp [fns, oneP])
  | [⟨fn, lo, lc, co, cc⟩], hx =>
    have hfn : fn = ⟨0, [], false, -1, [⟨oa, 0, 0⟩]⟩ := by simpa [fns, oneP] using hx
    subst hfn
    obtain rfl : n7 = 1 := by have := hr7.1.len; simpa using this.symm
    have hz4 : w3.heap.size ≤ w4.heap.size := hb4.size
    have HB4 := Lib.hid (HB3.out.trans (hb4.mono (by omega)))
    have HF7 := Lib.hid (HE7.out.below hb4 (by omega))
    have HR7 := Lib.hid hr7
    have d0 : w4.cell? ⟨w1.heap.size, 0, none⟩ = some (.int .u8 oa) := HF7.out.cell 0
    have d1 : w4.cell? ⟨w1.heap.size, 1, none⟩ = some (.int .i64 0) := HF7.out.cell 1
    have d2 : w4.cell? ⟨w1.heap.size, 2, none⟩ = some (.int .u64 0) := HF7.out.cell 2
    have f1 := HF7.out.frozen 1
    have f2 := HF7.out.frozen 2
    have f1a : ∀ o : Obj, (w4.alloc o).frozen? ⟨w1.heap.size, 1, none⟩ = false := fun o => (HF7.out.alloc o).frozen 1
    have f2a : ∀ o : Obj, (w4.alloc o).frozen? ⟨w1.heap.size, 2, none⟩ = false := fun o => (HF7.out.alloc o).frozen 2
    have hz7 : w1.heap.size < w4.heap.size := by omega
    clear hx hr7 hb4 HE7 HPY
    clear hoa hob
    by_cases ho1 : oa = 1
    · subst ho1
      have HIK : Hid (okI ⟨1, 0, xv⟩ = fitsB 1 xv) := Lib.hid (by exact fits_one hv0 hv1)
      obtain ⟨S3, hS3⟩ : ∃ S, Hid (S = str (if okI ⟨1, 0, xv⟩ then printT (oneP ⟨1, 0, xv⟩) else [])) := ⟨_, rfl⟩
      obtain ⟨pe, hpe⟩ : ∃ e : Int, Hid (e = if okI ⟨1, 0, xv⟩ then 0 else 30) := ⟨_, rfl⟩
      have HPF : Hid ((pe == 0) = fb) := Lib.hid (by rw [hpe.out, HFB.out, HIK.out]; cases fitsB 1 xv <;> rfl)
      have HB5 : Hid (Below w.heap.size w (((w4.setCell ⟨w1.heap.size, 2, none⟩ (.int .u64 xv)).setCell ⟨w1.heap.size, 1, none⟩ (.int .i64 0)).alloc (.cells #[.slice A7 1 c7] 25))) := Lib.hid (((HB4.out.setCell (p := ⟨w1.heap.size, 2, none⟩) (by simp; omega) _).setCell (p := ⟨w1.heap.size, 1, none⟩) (by simp; omega) _).alloc (by simp; omega) _)
      have HK5 : Hid (∀ i, i ≠ w1.heap.size → i < w4.heap.size → (((w4.setCell ⟨w1.heap.size, 2, none⟩ (.int .u64 xv)).setCell ⟨w1.heap.size, 1, none⟩ (.int .i64 0)).alloc (.cells #[.slice A7 1 c7] 25)).heap[i]? = w4.heap[i]?) := Lib.hid (fun i h1 h2 => by
        rw [Below.heap_alloc _ _ i (by simp; omega), Below.heap_setCell _ _ _ i (by simp; omega), Below.heap_setCell _ _ _ i (by simp; omega)])
      have HX5 : Hid (Blk (((w4.setCell ⟨w1.heap.size, 2, none⟩ (.int .u64 xv)).setCell ⟨w1.heap.size, 1, none⟩ (.int .i64 0)).alloc (.cells #[.slice A7 1 c7] 25)) w1.heap.size 42 #[.int .u8 1, .int .i64 0, .int .u64 xv]) := Lib.hid (((HF7.out.set_ 2 _).set_ 1 _).alloc _)
      have HY5 : Hid (Blk (((w4.setCell ⟨w1.heap.size, 2, none⟩ (.int .u64 xv)).setCell ⟨w1.heap.size, 1, none⟩ (.int .i64 0)).alloc (.cells #[.slice A7 1 c7] 25)) w4.heap.size 25 #[.slice A7 1 c7]) := Lib.hid (by have h := Blk.new ((w4.setCell ⟨w1.heap.size, 2, none⟩ (.int .u64 xv)).setCell ⟨w1.heap.size, 1, none⟩ (.int .i64 0)) 25 #[.slice A7 1 c7]; simpa using h)
      refine Lib.hid ?_
      go_wp2_with (go_at_call 12; refine (print_one _ 1 0 xv _ _ (by simp) (by simp) (by omega) (by omega) (by omega) (by omega) (by omega) (by omega) S3 pe hS3.out hpe.out (w4.heap.size + 1) (by simp) (HEV.out _ _ (by omega) HB5.out)).mono ?_; rintro e w6 ⟨rfl, hb6, hs6⟩; refine Hid.out ?_)
      have HB6 := Lib.hid (HB5.out.trans (hb6.mono (by omega)))
      have x6 : w6.cell? ⟨w1.heap.size, 0, none⟩ = some (.int .u8 1) := (HX5.out.below hb6 (by omega)).cell 0
      have y6 : w6.cell? ⟨w4.heap.size, 0, none⟩ = some (.slice A7 1 c7) := (HY5.out.below hb6 (by omega)).cell 0
      have hr6 : RdP w6 w6.heap.size A7 1 [⟨⟨0, [], false, -1, [⟨1, 0, 0⟩]⟩, lo, lc, co, cc⟩] := HR7.out.2 w6 (fun i h1 h2 => (hb6.block i (by omega)).trans (HK5.out i (by omega) h2))
      obtain ⟨b, off, r, rfl, hb, HX, HF, HW, z0, z1, z2, z3, z4⟩ := hr6.fn (k := 0) (by omega)
      have hr : r = ⟨⟨0, [], false, -1, [⟨1, 0, 0⟩]⟩, lo, lc, co, cc⟩ := by have := HX.out; simpa using this.symm
      subst hr
      obtain ⟨b2, off2, x, hco, hb22, HX2, u0, u1, u2⟩ := HF.out.code.ins (k := 0) (show 0 < ([⟨1, 0, 0⟩] : List Ins).length by simp)
      have hx : x = ⟨1, 0, 0⟩ := by have := HX2.out; simpa using this.symm
      subst hx
      simp only at hco
      subst hco
      simp only [Nat.zero_mul, Nat.add_zero] at z0 z1 z2 z3 z4 u0 u1 u2
      have z4' : w6.cell? ⟨b, off + 4, none⟩ = some (.slice (some ⟨b2, off2, none⟩) 1 cc) := z4
      have HPV := HPF.out
      clear hb6 hs6 hr6 hb HX HF HW HX2 hb22 z0 z1 z2 z3 z4 u1 u2 HR7
      clear d0 d1 d2 f1 f2 f1a f2a
      refine Lib.hid ?_
      go_upto_region 11 with fail
      go_cut [18] (fun s18 wx => s18 = .bool fb ∧ wx = w6)
      case first =>
        by_cases hv : xv = 0
        · have hfb : fb = true := by rw [HFB.out]; simp [fitsB] <;> omega
          have g20 : (xv == 0) = true := by simp <;> omega
          have HFb := Lib.hid hfb
          clear hfb HFB HPV HPF
          go_wp2
          go_meet
          exact ⟨by rw [HFb.out], rfl⟩
        have hv0' : (xv == 0) = false := by simp <;> omega
        have hfb : fb = true := by rw [HFB.out]; simp [fitsB] <;> omega
        have g20 : (1 == 1) = true := by simp <;> omega
        have HFb := Lib.hid hfb
        clear hfb HFB HPV HPF
        go_wp2
        go_meet
        exact ⟨by rw [HFb.out], rfl⟩
      case rest =>
        obtain ⟨rfl, rfl⟩ := hcut
        have hta : xa.tmod 32 = ra := by rw [Int.tmod_eq_emod_of_nonneg ha0]; exact hra
        have htb : xb.tmod 32 = rb := by rw [Int.tmod_eq_emod_of_nonneg hb0]; exact hrb
        have hwa : IntKind.u8.wrap ra = ra := by rw [IntKind.wrap_u8]; omega
        have hwb : IntKind.u8.wrap rb = rb := by rw [IntKind.wrap_u8]; omega
        by_cases hab : ra = rb
        · have q1 : (ra == rb) = true := by simp <;> omega
          have q2 : (S.toList == T.toList) = true := by rw [HSP.out, HTP.out, (print_one_inj (okI_zero oa0 oa1) (okI_zero ob0 ob1)).2 (by have := HOA.out; have := HOB.out; omega)]; simp
          clear hab
          cases fb
          all_goals
            go_wp2
            go_quiet (fail)
            go_wp2
            go_ret
            exact ⟨rfl, ⟨HB6.out.os, HB6.out.tape, HB6.out.output, HB6.out.size, HB6.out.block⟩⟩
        · have q1 : (ra == rb) = false := by simp <;> omega
          have q2 : (S.toList == T.toList) = false := by rw [HSP.out, HTP.out, str_eqb', decide_eq_false]; intro h; have h2 := (print_one_inj (okI_zero oa0 oa1) (okI_zero ob0 ob1)).1 (by rw [h]); have := HOA.out; have := HOB.out; omega
          clear hab
          cases fb
          all_goals
            go_wp2
            go_quiet (fail)
            go_wp2
            go_ret
            exact ⟨rfl, ⟨HB6.out.os, HB6.out.tape, HB6.out.output, HB6.out.size, HB6.out.block⟩⟩
    · have g1 : (oa != 1) = true := by simp; omega
      have HIK : Hid (okI ⟨oa, xv, 0⟩ = fitsB oa xv) := Lib.hid (fits_other hv0 hv1 oa0 oa1 ho1)
      obtain ⟨S3, hS3⟩ : ∃ S, Hid (S = str (if okI ⟨oa, xv, 0⟩ then printT (oneP ⟨oa, xv, 0⟩) else [])) := ⟨_, rfl⟩
      obtain ⟨pe, hpe⟩ : ∃ e : Int, Hid (e = if okI ⟨oa, xv, 0⟩ then 0 else 30) := ⟨_, rfl⟩
      have HPF : Hid ((pe == 0) = fb) := Lib.hid (by rw [hpe.out, HFB.out, HIK.out]; cases fitsB oa xv <;> rfl)
      have HB5 : Hid (Below w.heap.size w (((((w4.setCell ⟨w1.heap.size, 2, none⟩ (.int .u64 xv)).setCell ⟨w1.heap.size, 1, none⟩ (.int .i64 0)).setCell ⟨w1.heap.size, 2, none⟩ (.int .u64 0)).setCell ⟨w1.heap.size, 1, none⟩ (.int .i64 xv)).alloc (.cells #[.slice A7 1 c7] 25))) := Lib.hid (((((HB4.out.setCell (p := ⟨w1.heap.size, 2, none⟩) (by simp; omega) _).setCell (p := ⟨w1.heap.size, 1, none⟩) (by simp; omega) _).setCell (p := ⟨w1.heap.size, 2, none⟩) (by simp; omega) _).setCell (p := ⟨w1.heap.size, 1, none⟩) (by simp; omega) _).alloc (by simp; omega) _)
      have HK5 : Hid (∀ i, i ≠ w1.heap.size → i < w4.heap.size → (((((w4.setCell ⟨w1.heap.size, 2, none⟩ (.int .u64 xv)).setCell ⟨w1.heap.size, 1, none⟩ (.int .i64 0)).setCell ⟨w1.heap.size, 2, none⟩ (.int .u64 0)).setCell ⟨w1.heap.size, 1, none⟩ (.int .i64 xv)).alloc (.cells #[.slice A7 1 c7] 25)).heap[i]? = w4.heap[i]?) := Lib.hid (fun i h1 h2 => by
        rw [Below.heap_alloc _ _ i (by simp; omega), Below.heap_setCell _ _ _ i (by simp; omega), Below.heap_setCell _ _ _ i (by simp; omega), Below.heap_setCell _ _ _ i (by simp; omega), Below.heap_setCell _ _ _ i (by simp; omega)])
      have hx5 : Blk ((((w4.setCell ⟨w1.heap.size, 2, none⟩ (.int .u64 xv)).setCell ⟨w1.heap.size, 1, none⟩ (.int .i64 0)).setCell ⟨w1.heap.size, 2, none⟩ (.int .u64 0)).setCell ⟨w1.heap.size, 1, none⟩ (.int .i64 xv)) w1.heap.size 42 #[.int .u8 oa, .int .i64 xv, .int .u64 0] := (((HF7.out.set_ 2 _).set_ 1 _).set_ 2 _).set_ 1 _
      have HX5 : Hid (Blk (((((w4.setCell ⟨w1.heap.size, 2, none⟩ (.int .u64 xv)).setCell ⟨w1.heap.size, 1, none⟩ (.int .i64 0)).setCell ⟨w1.heap.size, 2, none⟩ (.int .u64 0)).setCell ⟨w1.heap.size, 1, none⟩ (.int .i64 xv)).alloc (.cells #[.slice A7 1 c7] 25)) w1.heap.size 42 #[.int .u8 oa, .int .i64 xv, .int .u64 0]) := Lib.hid (hx5.alloc _)
      have HY5 : Hid (Blk (((((w4.setCell ⟨w1.heap.size, 2, none⟩ (.int .u64 xv)).setCell ⟨w1.heap.size, 1, none⟩ (.int .i64 0)).setCell ⟨w1.heap.size, 2, none⟩ (.int .u64 0)).setCell ⟨w1.heap.size, 1, none⟩ (.int .i64 xv)).alloc (.cells #[.slice A7 1 c7] 25)) w4.heap.size 25 #[.slice A7 1 c7]) := Lib.hid (by have h := Blk.new ((((w4.setCell ⟨w1.heap.size, 2, none⟩ (.int .u64 xv)).setCell ⟨w1.heap.size, 1, none⟩ (.int .i64 0)).setCell ⟨w1.heap.size, 2, none⟩ (.int .u64 0)).setCell ⟨w1.heap.size, 1, none⟩ (.int .i64 xv)) 25 #[.slice A7 1 c7]; simpa using h)
      have e0 : ∀ o : Obj, (((((w4.setCell ⟨w1.heap.size, 2, none⟩ (.int .u64 xv)).setCell ⟨w1.heap.size, 1, none⟩ (.int .i64 0)).setCell ⟨w1.heap.size, 2, none⟩ (.int .u64 0)).setCell ⟨w1.heap.size, 1, none⟩ (.int .i64 xv)).alloc o).cell? ⟨w1.heap.size, 0, none⟩ = some (.int .u8 oa) := fun o => (hx5.alloc o).cell 0
      have e1 : ∀ o : Obj, (((((w4.setCell ⟨w1.heap.size, 2, none⟩ (.int .u64 xv)).setCell ⟨w1.heap.size, 1, none⟩ (.int .i64 0)).setCell ⟨w1.heap.size, 2, none⟩ (.int .u64 0)).setCell ⟨w1.heap.size, 1, none⟩ (.int .i64 xv)).alloc o).cell? ⟨w1.heap.size, 1, none⟩ = some (.int .i64 xv) := fun o => (hx5.alloc o).cell 1
      have e2 : ∀ o : Obj, (((((w4.setCell ⟨w1.heap.size, 2, none⟩ (.int .u64 xv)).setCell ⟨w1.heap.size, 1, none⟩ (.int .i64 0)).setCell ⟨w1.heap.size, 2, none⟩ (.int .u64 0)).setCell ⟨w1.heap.size, 1, none⟩ (.int .i64 xv)).alloc o).cell? ⟨w1.heap.size, 2, none⟩ = some (.int .u64 0) := fun o => (hx5.alloc o).cell 2
      clear hx5
      refine Lib.hid ?_
      go_wp2_with (go_at_call 12; refine (print_one _ oa xv 0 _ _ (by simp) (by simp) (by omega) (by omega) (by omega) (by omega) (by omega) (by omega) S3 pe hS3.out hpe.out (w4.heap.size + 1) (by simp) (HEV.out _ _ (by omega) HB5.out)).mono ?_; rintro e w6 ⟨rfl, hb6, hs6⟩; refine Hid.out ?_)
      have HB6 := Lib.hid (HB5.out.trans (hb6.mono (by omega)))
      have x6 : w6.cell? ⟨w1.heap.size, 0, none⟩ = some (.int .u8 oa) := (HX5.out.below hb6 (by omega)).cell 0
      have y6 : w6.cell? ⟨w4.heap.size, 0, none⟩ = some (.slice A7 1 c7) := (HY5.out.below hb6 (by omega)).cell 0
      have hr6 : RdP w6 w6.heap.size A7 1 [⟨⟨0, [], false, -1, [⟨oa, 0, 0⟩]⟩, lo, lc, co, cc⟩] := HR7.out.2 w6 (fun i h1 h2 => (hb6.block i (by omega)).trans (HK5.out i (by omega) h2))
      obtain ⟨b, off, r, rfl, hb, HX, HF, HW, z0, z1, z2, z3, z4⟩ := hr6.fn (k := 0) (by omega)
      have hr : r = ⟨⟨0, [], false, -1, [⟨oa, 0, 0⟩]⟩, lo, lc, co, cc⟩ := by have := HX.out; simpa using this.symm
      subst hr
      obtain ⟨b2, off2, x, hco, hb22, HX2, u0, u1, u2⟩ := HF.out.code.ins (k := 0) (show 0 < ([⟨oa, 0, 0⟩] : List Ins).length by simp)
      have hx : x = ⟨oa, 0, 0⟩ := by have := HX2.out; simpa using this.symm
      subst hx
      simp only at hco
      subst hco
      simp only [Nat.zero_mul, Nat.add_zero] at z0 z1 z2 z3 z4 u0 u1 u2
      have z4' : w6.cell? ⟨b, off + 4, none⟩ = some (.slice (some ⟨b2, off2, none⟩) 1 cc) := z4
      have HPV := HPF.out
      clear hb6 hs6 hr6 hb HX HF HW HX2 hb22 z0 z1 z2 z3 z4 u1 u2 HR7
      clear e0 e1 e2
      clear d0 d1 d2 f1 f2 f1a f2a
      refine Lib.hid ?_
      go_upto_region 11 with fail
      go_cut [18] (fun s18 wx => s18 = .bool fb ∧ wx = w6)
      case first =>
        by_cases hv : xv = 0
        · have hfb : fb = true := by rw [HFB.out]; simp [fitsB] <;> omega
          have g20 : (xv == 0) = true := by simp <;> omega
          have HFb := Lib.hid hfb
          clear hfb HFB HPV HPF
          go_wp2
          go_meet
          exact ⟨by rw [HFb.out], rfl⟩
        have hv0' : (xv == 0) = false := by simp <;> omega
        have hn1 : (oa == 1) = false := by simp <;> omega
        by_cases hq21 : oa = 21
        · have hfb : fb = true := by rw [HFB.out]; simp [fitsB] <;> omega
          have g20 : (oa == 21) = true := by simp <;> omega
          have HFb := Lib.hid hfb
          clear hfb HFB HPV HPF
          go_wp2
          go_meet
          exact ⟨by rw [HFb.out], rfl⟩
        have hn21 : (oa == 21) = false := by simp <;> omega
        by_cases hq22 : oa = 22
        · have hfb : fb = true := by rw [HFB.out]; simp [fitsB] <;> omega
          have g20 : (oa == 22) = true := by simp <;> omega
          have HFb := Lib.hid hfb
          clear hfb HFB HPV HPF
          go_wp2
          go_meet
          exact ⟨by rw [HFb.out], rfl⟩
        have hn22 : (oa == 22) = false := by simp <;> omega
        by_cases hlt : xv < 256
        · have hlt' : decide (xv < 256) = true := by simp <;> omega
          by_cases hq2 : oa = 2
          · have hfb : fb = true := by rw [HFB.out]; simp [fitsB] <;> omega
            have g20 : (oa == 2) = true := by simp <;> omega
            have HFb := Lib.hid hfb
            clear hfb HFB HPV HPF
            go_wp2
            go_meet
            exact ⟨by rw [HFb.out], rfl⟩
          have hn2 : (oa == 2) = false := by simp <;> omega
          by_cases hq3 : oa = 3
          · have hfb : fb = true := by rw [HFB.out]; simp [fitsB] <;> omega
            have g20 : (oa == 3) = true := by simp <;> omega
            have HFb := Lib.hid hfb
            clear hfb HFB HPV HPF
            go_wp2
            go_meet
            exact ⟨by rw [HFb.out], rfl⟩
          have hn3 : (oa == 3) = false := by simp <;> omega
          by_cases hq4 : oa = 4
          · have hfb : fb = true := by rw [HFB.out]; simp [fitsB] <;> omega
            have g20 : (oa == 4) = true := by simp <;> omega
            have HFb := Lib.hid hfb
            clear hfb HFB HPV HPF
            go_wp2
            go_meet
            exact ⟨by rw [HFb.out], rfl⟩
          have hn4 : (oa == 4) = false := by simp <;> omega
          by_cases hq23 : oa = 23
          · have hfb : fb = true := by rw [HFB.out]; simp [fitsB] <;> omega
            have g20 : (oa == 23) = true := by simp <;> omega
            have HFb := Lib.hid hfb
            clear hfb HFB HPV HPF
            go_wp2
            go_meet
            exact ⟨by rw [HFb.out], rfl⟩
          have hn23 : (oa == 23) = false := by simp <;> omega
          by_cases hq25 : oa = 25
          · have hfb : fb = true := by rw [HFB.out]; simp [fitsB] <;> omega
            have g20 : (oa == 25) = true := by simp <;> omega
            have HFb := Lib.hid hfb
            clear hfb HFB HPV HPF
            go_wp2
            go_meet
            exact ⟨by rw [HFb.out], rfl⟩
          have hn25 : (oa == 25) = false := by simp <;> omega
          have hfb : fb = false := by rw [HFB.out]; simp [fitsB] <;> omega
          have HFb := Lib.hid hfb
          clear hfb HFB HPV HPF
          go_wp2
          go_meet
          exact ⟨by rw [HFb.out], rfl⟩
        · have hlt' : decide (xv < 256) = false := by simp <;> omega
          have hfb : fb = false := by rw [HFB.out]; simp [fitsB] <;> omega
          have HFb := Lib.hid hfb
          clear hfb HFB HPV HPF
          go_wp2
          go_meet
          exact ⟨by rw [HFb.out], rfl⟩
      case rest =>
        obtain ⟨rfl, rfl⟩ := hcut
        have hta : xa.tmod 32 = ra := by rw [Int.tmod_eq_emod_of_nonneg ha0]; exact hra
        have htb : xb.tmod 32 = rb := by rw [Int.tmod_eq_emod_of_nonneg hb0]; exact hrb
        have hwa : IntKind.u8.wrap ra = ra := by rw [IntKind.wrap_u8]; omega
        have hwb : IntKind.u8.wrap rb = rb := by rw [IntKind.wrap_u8]; omega
        by_cases hab : ra = rb
        · have q1 : (ra == rb) = true := by simp <;> omega
          have q2 : (S.toList == T.toList) = true := by rw [HSP.out, HTP.out, (print_one_inj (okI_zero oa0 oa1) (okI_zero ob0 ob1)).2 (by have := HOA.out; have := HOB.out; omega)]; simp
          clear hab
          cases fb
          all_goals
            go_wp2
            go_quiet (fail)
            go_wp2
            go_ret
            exact ⟨rfl, ⟨HB6.out.os, HB6.out.tape, HB6.out.output, HB6.out.size, HB6.out.block⟩⟩
        · have q1 : (ra == rb) = false := by simp <;> omega
          have q2 : (S.toList == T.toList) = false := by rw [HSP.out, HTP.out, str_eqb', decide_eq_false]; intro h; have h2 := (print_one_inj (okI_zero oa0 oa1) (okI_zero ob0 ob1)).1 (by rw [h]); have := HOA.out; have := HOB.out; omega
          clear hab
          cases fb
          all_goals
            go_wp2
            go_quiet (fail)
            go_wp2
            go_ret
            exact ⟨rfl, ⟨HB6.out.os, HB6.out.tape, HB6.out.output, HB6.out.size, HB6.out.block⟩⟩
theorem wf_u16 {n : Int} (h : (Lit.int .u16 n).wf = true) : 0 ≤ n ∧ n ≤ 65535 := by
  simp [Lit.wf, IntKind.min, IntKind.max, IntKind.signed, IntKind.bits] at h
  omega
theorem names_all (xa xb xv : Int) (w : World) (ha : 0 ≤ xa ∧ xa ≤ 255) (hb : 0 ≤ xb ∧ xb ≤ 255) (hv : 0 ≤ xv ∧ xv ≤ 65535) (hE : Env w.heap.size w) :
    Calls Tryd.prog 5 #[.int .u8 xa, .int .u8 xb, .int .u16 xv] w fun e w' => e = .returned (.bool true) ∧ Below w.heap.size w w' := names_walk xa xb xv w ha.1 ha.2 hb.1 hb.2 hv.1 hv.2 hE
end Go.Proofs.YtfadcoimeocjiaaDoor
