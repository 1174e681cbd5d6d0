/-
  Texts of one seat, one behind the other: LRm, Rin, Rr.
-/
import Derived.Test.YtmfdaeicbaibeaaDoorMA12
import Derived.Test.YtmfdaeicbaibeaaDoorMA3
import Derived.Test.YtmfdaeicbaibeaaDoorMA11

/-
  The document's In: going round till nothing more comes: the mathematics, and its memory.
-/
namespace Go.Proofs.YtmfdaeicbaibeaaDoor
set_option linter.unusedVariables false
set_option linter.unusedSimpArgs false
open Go.ChangeShapes Go.WideShapes Go.ChangeAt Go.RowKit

/-- what makes a place live at a node, by what is known of the others -/
def ruleL (I : Nat → Nat → Bool) (nd : Nd) (p : Nat) : Bool := decide ((p : Int) ∈ readsOf nd) || (nextsOf nd).any fun x => I x.toNat p && !decide ((p : Int) ∈ writesOf nd)
def upd2 (I : Nat → Nat → Bool) (i p : Nat) : Nat → Nat → Bool := fun a b => if a = i ∧ b = p then true else I a b
theorem upd2_or (I : Nat → Nat → Bool) (i p a b : Nat) : upd2 I i p a b = (I a b || decide (a = i ∧ b = p)) := by
  unfold upd2
  by_cases h : a = i ∧ b = p
  · rw [if_pos h]; simp [h]
  · rw [if_neg h]; simp [h]
/-- how many are still to come -/
def leftL (I : Nat → Nat → Bool) (n m : Nat) : Nat := n * m - (List.range (n * m)).countP fun j => I (j / m) (j % m)
theorem leftL_upd {I : Nat → Nat → Bool} {n m i p : Nat} (hi : i < n) (hp : p < m) (h : I i p = false) : leftL (upd2 I i p) n m < leftL I n m := by
  unfold leftL
  have hm : 0 < m := by omega
  have hlt : i * m + p < n * m := by
    have : (i + 1) * m ≤ n * m := Nat.mul_le_mul_right _ hi
    rw [Nat.add_mul] at this
    omega
  have hd : (i * m + p) / m = i := by
    rw [Nat.mul_comm, Nat.mul_add_div hm, Nat.div_eq_of_lt hp, Nat.add_zero]
  have hr : (i * m + p) % m = p := by
    rw [Nat.mul_comm, Nat.mul_add_mod, Nat.mod_eq_of_lt hp]
  have h1 := countP_one (fun j => I (j / m) (j % m)) (fun j => upd2 I i p (j / m) (j % m)) (i * m + p) (n * m) hlt (by simp only [hd, hr]; exact h) (fun j => by
    rw [upd2_or]
    congr 1
    by_cases e : j = i * m + p
    · subst e
      simp [hd, hr]
    · have : ¬ (j / m = i ∧ j % m = p) := by
        rintro ⟨h1, h2⟩
        apply e
        rw [← h1, ← h2, Nat.mul_comm]
        exact (Nat.div_add_mod j m).symm
      simp [e, this])
  have h2 := List.countP_le_length (p := fun j => upd2 I i p (j / m) (j % m)) (l := List.range (n * m))
  rw [List.length_range] at h2
  omega
/-- sound so far -/
def SndL (ns : List Nd) (I : Nat → Nat → Bool) (n m : Nat) : Prop := ∀ i p : Nat, i < n → p < m → I i p = true → Live ns p i
theorem SndL.step {ns : List Nd} {I : Nat → Nat → Bool} {n m i p : Nat} {nd : Nd} (h : SndL ns I n m) (hn : ns[i]? = some nd) (hv : ∀ x ∈ nextsOf nd, 0 ≤ x ∧ x < (n : Int)) (hp : p < m) (hr : ruleL I nd p = true) : SndL ns (upd2 I i p) n m := by
  intro a b ha hb hab
  rw [upd2_or] at hab
  rcases Bool.or_eq_true _ _ ▸ hab with hab | hab
  · exact h a b ha hb hab
  · obtain ⟨rfl, rfl⟩ := of_decide_eq_true hab
    unfold ruleL at hr
    rcases Bool.or_eq_true _ _ ▸ hr with hr | hr
    · exact .here hn (of_decide_eq_true hr)
    · obtain ⟨x, hx, h2⟩ := List.any_eq_true.1 hr
      obtain ⟨h3, h4⟩ := Bool.and_eq_true _ _ ▸ h2
      obtain ⟨h5, h6⟩ := hv x hx
      have h7 : ¬ (b : Int) ∈ writesOf nd := by simpa using h4
      exact .next (j := x.toNat) hn h7 (by rw [Int.toNat_of_nonneg h5]; exact hx) (h x.toNat b (by omega) hb h3)
/-- closed for node i: all places below k -/
def DnI (ns : List Nd) (I : Nat → Nat → Bool) (i k : Nat) : Prop := ∀ p : Nat, p < k → ∀ nd, ns[i]? = some nd → ruleL I nd p = true → I i p = true
theorem DnI.live {ns : List Nd} {I : Nat → Nat → Bool} {n m : Nat} (hns : ns.length = n) (h : ∀ i, i < n → DnI ns I i m) {p i : Nat} (hp : p < m) (hl : Live ns (p : Int) i) : I i p = true := by
  generalize hpp : (p : Int) = pp at hl
  induction hl with
  | @here i nd h1 hr =>
    subst hpp
    have hi := (List.getElem?_eq_some_iff.1 h1).1
    refine h i (by omega) p hp nd h1 ?_
    unfold ruleL
    rw [decide_eq_true hr]
    rfl
  | @next i j nd h1 hw hj hl2 ih =>
    subst hpp
    have hi := (List.getElem?_eq_some_iff.1 h1).1
    refine h i (by omega) p hp nd h1 ?_
    unfold ruleL
    rw [Bool.or_eq_true]
    refine .inr (List.any_eq_true.2 ⟨(j : Int), hj, ?_⟩)
    rw [Int.toNat_natCast, ih, decide_eq_false hw]
    rfl
/-- rows of bools, their blocks in a line -/
structure InI (W : World) (R n m : Nat) (cs : Array Value) (I : Nat → Nat → Bool) (wr : World) : Prop where
  gr : Blk wr W.heap.size 37 cs
  row : Blk wr R 74 (rowA n fun i => .slice (some ⟨R + 1 + i, 0, none⟩) m m)
  bits : ∀ i, i < n → Blk wr (R + 1 + i) 4 (rowA m fun p => .bool (I i p))
  below : Below W.heap.size W wr
  at_ : R = W.heap.size + 1
/-- below E only those rows may have turned -/
structure KpI (w0 w : World) (E R n : Nat) : Prop where
  size : w0.heap.size ≤ w.heap.size
  block : ∀ i, i < E → (∀ j, j < n → i ≠ R + 1 + j) → w.heap[i]? = w0.heap[i]?
section
variable {W w0 w wr w' : World} {E R n m : Nat} {cs : Array Value} {I : Nat → Nat → Bool}
theorem InI.on (h : InI W R n m cs I wr) (hb : Below wr.heap.size wr w') : InI W R n m cs I w' :=
  ⟨h.gr.below hb h.gr.lt, h.row.below hb h.row.lt, fun i hi => (h.bits i hi).below hb (h.bits i hi).lt, h.below.trans (hb.mono h.below.size), h.at_⟩
theorem InI.set (h : InI W R n m cs I wr) {i p : Nat} (hi : i < n) (hp : p < m) : InI W R n m cs (upd2 I i p) (wr.setCell ⟨R + 1 + i, p, none⟩ (.bool true)) := by
  have ha := h.at_
  refine ⟨h.gr.far (p := ⟨R + 1 + i, p, none⟩) (by show W.heap.size ≠ R + 1 + i; omega) _, h.row.far (p := ⟨R + 1 + i, p, none⟩) (by show R ≠ R + 1 + i; omega) _, fun k hk => ?_, h.below.setCell (p := ⟨R + 1 + i, p, none⟩) (by show W.heap.size ≤ R + 1 + i; omega) _, ha⟩
  by_cases e : k = i
  · subst e
    have h1 := (h.bits k hk).set_ p (.bool true)
    rw [rowA_set] at h1
    rw [rowA_congr (g := upd (fun p => .bool (I k p)) p (.bool true)) (fun b hb => by
      unfold upd upd2
      by_cases e : b = p
      · rw [if_pos ⟨rfl, e⟩, if_pos e]
      · rw [if_neg (fun h => e h.2), if_neg e])]
    exact h1
  · rw [rowA_congr (g := fun p => .bool (I k p)) (fun b hb => by
      unfold upd2
      rw [if_neg (fun h => e h.1)])]
    exact (h.bits k hk).far (p := ⟨R + 1 + i, p, none⟩) (by show R + 1 + k ≠ R + 1 + i; omega) _
theorem KpI.refl (w : World) (E R n : Nat) : KpI w w E R n := ⟨Nat.le_refl _, fun _ _ _ => rfl⟩
theorem KpI.below {E' : Nat} (h : KpI w0 w E R n) (k : Below E' w w') (hE : E ≤ E') : KpI w0 w' E R n := ⟨Nat.le_trans h.size k.size, fun i hi hj => (k.block i (by omega)).trans (h.block i hi hj)⟩
theorem KpI.set (h : KpI w0 w E R n) {j : Nat} (hj : j < n) (k : Nat) (u : Value) : KpI w0 (w.setCell ⟨R + 1 + j, k, none⟩ u) E R n :=
  ⟨by simpa [World.setCell] using h.size, fun i hi hne => (Below.heap_setCell w ⟨R + 1 + j, k, none⟩ u i (hne j hj)).trans (h.block i hi hne)⟩
theorem KpI.blk {g : Nat} {t : TypeId} {c : Array Value} (h : KpI w0 w E R n) (hs : InI W R n m cs I w0) (hb : Blk w0 g t c) (ht : 4 ≠ t) (hg : g < E) : Blk w g t c :=
  (h.block g hg fun j hj e => by
    subst e
    exact Blk.ne_ (hs.bits j hj) hb ht rfl).trans hb
/-- a row of ints lies in no block of bools -/
theorem KpI.reads {B k : Nat} {A : Option Addr} {l : List Int} (hk : KpI w0 w E R n) (hs : InI W R n m cs I w0) (h : Reads w0 B 1 A k (i64c l)) (hB : B ≤ E) : Reads w B 1 A k (i64c l) := by
  refine ⟨h.1, fun hn => ?_⟩
  obtain ⟨b, off, rfl, hb, hc⟩ := h.lit hn (by omega)
  have hne : ∀ j, j < n → b ≠ R + 1 + j := by
    intro j hj e
    subst e
    have hl : 0 < l.length := by have := h.1; rw [length_i64c] at this; omega
    have h1 := hc 0 _ (i64c_at (List.getElem?_eq_getElem hl))
    have hw := (hs.bits j hj).cell (off + 0)
    rw [hw] at h1
    unfold rowA at h1
    rw [List.getElem?_toArray, List.getElem?_map] at h1
    rcases e2 : (List.range m)[off + 0]? with _ | y
    · rw [e2] at h1; cases h1
    · rw [e2] at h1
      injection h1 with h1
      cases h1
  refine ⟨⟨b, off, none⟩, rfl, hb, fun j u hu => ?_⟩
  have ea : (⟨b, off, none⟩ : Addr).add j = ⟨b, off + j, none⟩ := by simp [Addr.add]
  rw [ea]
  exact (World.cell?_of_block (hk.block b (by omega) hne)).trans (hc j u hu)
end
/-- any of the first j -/
def anyK (I : Nat → Nat → Bool) (nd : Nd) (p j : Nat) : Bool := decide ((p : Int) ∈ readsOf nd) || ((nextsOf nd).take j).any fun x => I x.toNat p && !decide ((p : Int) ∈ writesOf nd)
theorem anyK_zero (I : Nat → Nat → Bool) (nd : Nd) (p : Nat) : anyK I nd p 0 = decide ((p : Int) ∈ readsOf nd) := by simp [anyK]
theorem anyK_succ {I : Nat → Nat → Bool} {nd : Nd} {p j : Nat} {x : Int} (hx : (nextsOf nd)[j]? = some x) : anyK I nd p (j + 1) = (anyK I nd p j || (I x.toNat p && !decide ((p : Int) ∈ writesOf nd))) := by
  unfold anyK
  rw [List.take_add_one, hx, List.any_append, Bool.or_assoc]
  simp
theorem anyK_all {I : Nat → Nat → Bool} {nd : Nd} {p j : Nat} (h : (nextsOf nd).length ≤ j) : anyK I nd p j = ruleL I nd p := by
  unfold anyK ruleL
  rw [List.take_of_length_le h]
end Go.Proofs.YtmfdaeicbaibeaaDoor

/-
  The document's lists of places: In, add.
-/
namespace Go.Proofs.YtmfdaeicbaibeaaDoor
set_option linter.unusedVariables false
set_option linter.unusedSimpArgs false
open Go.ChangeShapes Go.WideShapes Go.ChangeAt Go.RowKit

set_option maxHeartbeats 1600000 in
theorem in_any (B : Nat) (A : Option Addr) (n c : Nat) (l : List Int) (x : Int) (w : World) (h : Reads w B 1 A n (i64c l)) (hn : l.length = n) (hnb : n ≤ 140737488351232) :
    Calls Tryd.prog 15 #[.slice A n c, .int .i64 x] w fun e w' => e = .returned (.bool (decide (x ∈ l))) ∧ w' = w := by
  have H := Lib.hid h
  have HN := Lib.hid hn
  clear h hn
  go_enter Tryd.func15, Tryd.ntmps15
  go_wp2
  go_loopw [9] (fun i wr => ∃ k : Nat, k ≤ n ∧ i = .int .i64 k ∧ Hid (x ∉ l.take k) ∧ wr = w) (fun i _ => n - (intOf i).toNat)
  case atStart => exact ⟨0, Nat.zero_le _, rfl, Lib.hid (by simp), rfl⟩
  case round =>
    obtain ⟨k, hk, rfl, HP, rfl⟩ := hrel
    by_cases hlt : k < n
    · obtain ⟨b, off, y, rfl, hb, HX, x1⟩ := H.out.int hlt
      by_cases hxy : y = x
      · have hd : (y == x) = true := by simpa using hxy
        have HR : Hid (decide (x ∈ l) = true) := Lib.hid (by rw [decide_eq_true_eq, ← hxy]; exact List.mem_of_getElem? HX.out)
        clear hxy
        go_wp2
        go_ret
        exact ⟨by rw [HR.out]; rfl, rfl⟩
      · have hd : (y == x) = false := by simpa using hxy
        have HQ : Hid (x ∉ l.take (k + 1)) := Lib.hid (by
          rw [take_at HX.out]
          simp only [List.mem_append, List.mem_singleton, not_or]
          exact ⟨HP.out, fun e => hxy e.symm⟩)
        clear hxy
        go_wp2
        go_roundw
        case rel => exact ⟨k + 1, by omega, by go_num, HQ, by first | rfl | trivial⟩
        case measure => simp [intOf]; omega
    · obtain rfl : n = k := by omega
      have HR : Hid (decide (x ∈ l) = false) := Lib.hid (by
        have h := HP.out
        rw [List.take_of_length_le (by rw [HN.out]; omega)] at h
        simpa using h)
      go_wp2
      go_ret
      exact ⟨by rw [HR.out]; rfl, rfl⟩

/-- the document's gathering loop -/
structure RaI (w : World) (zs : List Int) (k : Nat) (v : Value) (wr : World) : Prop where
  own : wr.ownsRow w.heap.size 3 1 v (addL [] (zs.take k)).length (i64c (addL [] (zs.take k)))
  below : Below w.heap.size w wr

set_option maxRecDepth 100000 in
set_option maxHeartbeats 1600000 in
theorem radd_any (B : Nat) (A : Option Addr) (n c : Nat) (zs : List Int) (w : World) (h : Reads w B 1 A n (i64c zs)) (hn : zs.length = n) (hz : ∀ x ∈ zs, I64 x) (hB : B ≤ w.heap.size) (hnb : n * 8 ≤ 140737488351232) :
    Calls Tryd.prog 48 #[.slice none 0 0, .slice A n c] w (NewI w (addL [] zs)) := by
  obtain ⟨i0, hi, hz0, hz1, hz2⟩ := info_parts Tryd.info3
  have H := Lib.hid h
  have HN := Lib.hid hn
  have HZ := Lib.hid hz
  clear h hn hz
  go_enter Tryd.func48, Tryd.ntmps48
  go_wp2
  go_loopw [0, 9] (fun v i wr => ∃ k : Nat, k ≤ n ∧ i = .int .i64 k ∧ Hid (RaI w zs k v wr)) (fun _ i _ => n - (intOf i).toNat)
  case atStart => exact ⟨0, Nat.zero_le _, rfl, ⟨World.ownsRow_nil _ _ _ _, Below.refl _ _⟩⟩
  case round =>
    obtain ⟨k, hk, rfl, HI⟩ := hrel
    have hrow := HI.out.own
    obtain ⟨A1, c1, rfl⟩ := own_slice hrow
    have hws := HI.out.below.size
    by_cases hlt : k < n
    · obtain ⟨b, off, x, rfl, hb, HX, x1⟩ := (H.out.below (HI.out.below.mono hB)).int hlt
      have hal := addL_len [] (zs.take k)
      have htk : (zs.take k).length = k := by rw [List.length_take, HN.out]; omega
      have hadd : addL [] (zs.take (k + 1)) = add1 (addL [] (zs.take k)) x := by rw [take_at HX.out, addL_snoc]
      have hbr : b < wr.heap.size := by omega
      simp only [List.length_nil, Nat.zero_add, htk] at hal
      have HADD := Lib.hid hadd
      have HRD : Hid (Reads wr wr.heap.size 1 A1 (addL [] (zs.take k)).length (i64c (addL [] (zs.take k)))) := Reads.of_own hrow
      clear hadd htk
      by_cases hneg : x < 0
      · have hg : (addL [] (zs.take (k + 1))) = addL [] (zs.take k) := by
          rw [HADD.out, add1, if_neg]
          rintro ⟨h2, _⟩
          omega
        have HG := Lib.hid hg
        clear hg
        have hd : decide (x ≥ 0) = false := by simp; omega
        go_wp2
        go_roundw
        case rel => exact ⟨k + 1, by omega, by go_num, ⟨by rw [HG.out]; exact hrow, HI.out.below⟩⟩
        case measure => simp [intOf]; omega
      · have hd : decide (x ≥ 0) = true := by simp; omega
        by_cases hin : x ∈ addL [] (zs.take k)
        · have hg : (addL [] (zs.take (k + 1))) = addL [] (zs.take k) := by
            rw [HADD.out, add1, if_neg]
            rintro ⟨_, h2⟩
            exact h2 hin
          have HG := Lib.hid hg
          have hm : decide (x ∈ addL [] (zs.take k)) = true := by simpa using hin
          have HM := Lib.hid hm
          clear hg hin hm
          go_wp2_with (first | (go_at_call 15; refine (in_any _ _ _ _ _ _ _ HRD.out rfl (by omega)).mono ?_; rintro e w2 ⟨rfl, rfl⟩; rw [HM.out]))
          go_roundw
          case rel => exact ⟨k + 1, by omega, by go_num, ⟨by rw [HG.out]; exact hrow, HI.out.below⟩⟩
          case measure => simp [intOf]; omega
        · have hg : (addL [] (zs.take (k + 1))) = addL [] (zs.take k) ++ [x] := by
            rw [HADD.out, add1, if_pos]
            exact ⟨by omega, hin⟩
          have HG := Lib.hid hg
          have hm : decide (x ∈ addL [] (zs.take k)) = false := by simpa using hin
          have HM := Lib.hid hm
          clear hg hin hm
          go_wp2_with (first
            | (go_at_call 15; refine (in_any _ _ _ _ _ _ _ HRD.out rfl (by omega)).mono ?_; rintro e w2 ⟨rfl, rfl⟩; rw [HM.out])
            | (at_builtin; refine wpList_append_own _ rfl _ _ 33 rfl w.heap.size 3 i0 (.int .i64 0) 1 8 Tryd.underlying33 hi hz0 hz1 hz2 rfl (by decide) _ _ _ rfl (hrow.alloc _) ⟨_, 0, none⟩ 1 1 [.int .i64 x] rfl rfl (cell_one_new _ _ _) (ints_oneCell .i64 [x]) (by unfold maxLen; omega) (by omega) (by simp; omega) ?_; intro v' w3 hown' hgrow2 hnil2))
          have s2 := hgrow2.size
          simp at s2
          go_roundw
          case rel =>
            refine ⟨k + 1, by omega, by go_num, ⟨?_, ?_⟩⟩
            · rw [HG.out]
              simpa [i64c] using hown'
            · exact ((HI.out.below.alloc hws _).grown hgrow2 (by simp; omega) (fun j hj => (hrow.lt j hj).1))
          case measure => simp [intOf]; omega
    · obtain rfl : n = k := by omega
      have hall : zs.take n = zs := List.take_of_length_le (by rw [HN.out]; omega)
      rw [hall] at hrow ⊢
      have HR : Hid (Reads wr wr.heap.size 1 A1 (addL [] zs).length (i64c (addL [] zs))) := Reads.of_own hrow
      have HC : Hid ((addL [] zs).length ≤ c1) := own_cap hrow
      have HBL := Lib.hid HI.out.below
      clear hrow hall
      go_wp2
      go_ret
      exact ⟨A1, c1, rfl, HR.out, HC.out, HBL.out⟩
end Go.Proofs.YtmfdaeicbaibeaaDoor

/-
  The document's reads, writes and next nodes of a node.
-/
namespace Go.Proofs.YtmfdaeicbaibeaaDoor
set_option linter.unusedVariables false
set_option linter.unusedSimpArgs false
open Go.ChangeShapes Go.WideShapes Go.ChangeAt Go.RowKit


set_option maxRecDepth 100000 in
set_option maxHeartbeats 6400000 in
theorem rreads_any (B : Nat) (op bop d e a b f cell imm : Int) (args : List Int) (nx el : Int) (ao : Option Addr) (nA ac : Nat) (w : World) (ho0 : 0 ≤ op) (ho1 : op ≤ 255) (hd : I64 d) (he : I64 e) (ha : I64 a) (hb : I64 b) (hn : I64 nx) (hel : I64 el) (hr : Reads w B 1 ao nA (i64c args)) (hl : args.length = nA) (hargs : ∀ x ∈ args, I64 x) (hnA : nA * 8 ≤ 140737488351232) (hnc : nA ≤ ac) (hB : B ≤ w.heap.size) :
    Calls Tryd.prog 26 #[.agg #[.int .u8 op, .int .u8 bop, .int .i64 d, .int .i64 e, .int .i64 a, .int .i64 b, .int .i64 f, .int .i64 cell, .int .u64 imm, .slice ao nA ac, .int .i64 nx, .int .i64 el]] w (NewI w (readsOf ⟨op, bop, d, e, a, b, f, cell, imm, args, nx, el⟩)) := by
  have H := Lib.hid hr
  have HL := Lib.hid hl
  have HA := Lib.hid hargs
  have HW1 : Hid (Below w.heap.size w (w.alloc (.cells #[.int .u8 op, .int .u8 bop, .int .i64 d, .int .i64 e, .int .i64 a, .int .i64 b, .int .i64 f, .int .i64 cell, .int .u64 imm, .slice ao nA ac, .int .i64 nx, .int .i64 el] 64))) := (Below.refl _ _).alloc (Nat.le_refl _) _
  have HH : Hid (Reads (w.alloc (.cells #[.int .u8 op, .int .u8 bop, .int .i64 d, .int .i64 e, .int .i64 a, .int .i64 b, .int .i64 f, .int .i64 cell, .int .u64 imm, .slice ao nA ac, .int .i64 nx, .int .i64 el] 64)) B 1 ao nA (i64c args)) := Lib.hid (hr.below (HW1.out.mono hB))
  have hB1 : B ≤ (w.alloc (.cells #[.int .u8 op, .int .u8 bop, .int .i64 d, .int .i64 e, .int .i64 a, .int .i64 b, .int .i64 f, .int .i64 cell, .int .u64 imm, .slice ao nA ac, .int .i64 nx, .int .i64 el] 64)).heap.size := by simp; omega
  have hz1 : (w.alloc (.cells #[.int .u8 op, .int .u8 bop, .int .i64 d, .int .i64 e, .int .i64 a, .int .i64 b, .int .i64 f, .int .i64 cell, .int .u64 imm, .slice ao nA ac, .int .i64 nx, .int .i64 el] 64)).heap.size = w.heap.size + 1 := by simp
  clear hr hl hargs
  rcases op_cases ho0 ho1 with rfl | rfl | rfl | rfl | rfl | rfl | rfl | rfl | rfl | rfl | rfl | rfl | rfl | rfl | rfl | rfl | rfl | rfl | hop
  · go_enter Tryd.func26, Tryd.ntmps26
    go_wp2
    go_ret
    exact NewI.mk' (l := []) rfl rfl Reads.none_ (Nat.le_refl _) (Below.refl _ _) HW1.out
  · have HLR := Lib.hid (lit_reads (w.alloc (.cells #[.int .u8 2, .int .u8 bop, .int .i64 d, .int .i64 e, .int .i64 a, .int .i64 b, .int .i64 f, .int .i64 cell, .int .u64 imm, .slice ao nA ac, .int .i64 nx, .int .i64 el] 64)) 3 (i64c [a]) 1 rfl)
    have HWF : Hid (∀ x ∈ [a], I64 x) := Lib.hid (by intro x hx; simp at hx; subst hx; assumption)
    have HW2 : Hid (Below w.heap.size w ((w.alloc (.cells #[.int .u8 2, .int .u8 bop, .int .i64 d, .int .i64 e, .int .i64 a, .int .i64 b, .int .i64 f, .int .i64 cell, .int .u64 imm, .slice ao nA ac, .int .i64 nx, .int .i64 el] 64)).alloc (.cells #[.int .i64 a] 3))) := HW1.out.alloc (by simp) _
    have hs2 : w.heap.size + 1 + 1 ≤ ((w.alloc (.cells #[.int .u8 2, .int .u8 bop, .int .i64 d, .int .i64 e, .int .i64 a, .int .i64 b, .int .i64 f, .int .i64 cell, .int .u64 imm, .slice ao nA ac, .int .i64 nx, .int .i64 el] 64)).alloc (.cells #[.int .i64 a] 3)).heap.size := by simp
    rw [hz1] at HLR
    go_enter Tryd.func26, Tryd.ntmps26
    go_wp2_with (first | (go_at_call 48; refine (radd_any (w.heap.size + 1 + 1) _ 1 _ [a] _ HLR.out rfl HWF.out hs2 (by omega)).mono ?_; rintro ee w2 ⟨A2, c2, rfl, hr2, hc2, hb2⟩; have HR2 := Lib.hid hr2; have HB2 := Lib.hid hb2; clear hr2 hb2))
    go_ret
    exact NewI.mk' rfl rfl HR2.out hc2 HB2.out HW2.out
  · have HLR := Lib.hid (lit_reads (w.alloc (.cells #[.int .u8 3, .int .u8 bop, .int .i64 d, .int .i64 e, .int .i64 a, .int .i64 b, .int .i64 f, .int .i64 cell, .int .u64 imm, .slice ao nA ac, .int .i64 nx, .int .i64 el] 64)) 3 (i64c [a, b]) 2 rfl)
    have HWF : Hid (∀ x ∈ [a, b], I64 x) := Lib.hid (by intro x hx; simp at hx; rcases hx with rfl | rfl <;> assumption)
    have HW2 : Hid (Below w.heap.size w ((w.alloc (.cells #[.int .u8 3, .int .u8 bop, .int .i64 d, .int .i64 e, .int .i64 a, .int .i64 b, .int .i64 f, .int .i64 cell, .int .u64 imm, .slice ao nA ac, .int .i64 nx, .int .i64 el] 64)).alloc (.cells #[.int .i64 a, .int .i64 b] 3))) := HW1.out.alloc (by simp) _
    have hs2 : w.heap.size + 1 + 1 ≤ ((w.alloc (.cells #[.int .u8 3, .int .u8 bop, .int .i64 d, .int .i64 e, .int .i64 a, .int .i64 b, .int .i64 f, .int .i64 cell, .int .u64 imm, .slice ao nA ac, .int .i64 nx, .int .i64 el] 64)).alloc (.cells #[.int .i64 a, .int .i64 b] 3)).heap.size := by simp
    rw [hz1] at HLR
    go_enter Tryd.func26, Tryd.ntmps26
    go_wp2_with (first | (go_at_call 48; refine (radd_any (w.heap.size + 1 + 1) _ 2 _ [a, b] _ HLR.out rfl HWF.out hs2 (by omega)).mono ?_; rintro ee w2 ⟨A2, c2, rfl, hr2, hc2, hb2⟩; have HR2 := Lib.hid hr2; have HB2 := Lib.hid hb2; clear hr2 hb2))
    go_ret
    exact NewI.mk' rfl rfl HR2.out hc2 HB2.out HW2.out
  · go_enter Tryd.func26, Tryd.ntmps26
    go_wp2
    go_ret
    exact NewI.mk' (l := []) rfl rfl Reads.none_ (Nat.le_refl _) (Below.refl _ _) HW1.out
  · have HLR := Lib.hid (lit_reads (w.alloc (.cells #[.int .u8 5, .int .u8 bop, .int .i64 d, .int .i64 e, .int .i64 a, .int .i64 b, .int .i64 f, .int .i64 cell, .int .u64 imm, .slice ao nA ac, .int .i64 nx, .int .i64 el] 64)) 3 (i64c [a]) 1 rfl)
    have HWF : Hid (∀ x ∈ [a], I64 x) := Lib.hid (by intro x hx; simp at hx; subst hx; assumption)
    have HW2 : Hid (Below w.heap.size w ((w.alloc (.cells #[.int .u8 5, .int .u8 bop, .int .i64 d, .int .i64 e, .int .i64 a, .int .i64 b, .int .i64 f, .int .i64 cell, .int .u64 imm, .slice ao nA ac, .int .i64 nx, .int .i64 el] 64)).alloc (.cells #[.int .i64 a] 3))) := HW1.out.alloc (by simp) _
    have hs2 : w.heap.size + 1 + 1 ≤ ((w.alloc (.cells #[.int .u8 5, .int .u8 bop, .int .i64 d, .int .i64 e, .int .i64 a, .int .i64 b, .int .i64 f, .int .i64 cell, .int .u64 imm, .slice ao nA ac, .int .i64 nx, .int .i64 el] 64)).alloc (.cells #[.int .i64 a] 3)).heap.size := by simp
    rw [hz1] at HLR
    go_enter Tryd.func26, Tryd.ntmps26
    go_wp2_with (first | (go_at_call 48; refine (radd_any (w.heap.size + 1 + 1) _ 1 _ [a] _ HLR.out rfl HWF.out hs2 (by omega)).mono ?_; rintro ee w2 ⟨A2, c2, rfl, hr2, hc2, hb2⟩; have HR2 := Lib.hid hr2; have HB2 := Lib.hid hb2; clear hr2 hb2))
    go_ret
    exact NewI.mk' rfl rfl HR2.out hc2 HB2.out HW2.out
  · go_enter Tryd.func26, Tryd.ntmps26
    go_wp2
    go_ret
    exact NewI.mk' (l := []) rfl rfl Reads.none_ (Nat.le_refl _) (Below.refl _ _) HW1.out
  · have HLR := Lib.hid (lit_reads (w.alloc (.cells #[.int .u8 7, .int .u8 bop, .int .i64 d, .int .i64 e, .int .i64 a, .int .i64 b, .int .i64 f, .int .i64 cell, .int .u64 imm, .slice ao nA ac, .int .i64 nx, .int .i64 el] 64)) 3 (i64c [a]) 1 rfl)
    have HWF : Hid (∀ x ∈ [a], I64 x) := Lib.hid (by intro x hx; simp at hx; subst hx; assumption)
    have HW2 : Hid (Below w.heap.size w ((w.alloc (.cells #[.int .u8 7, .int .u8 bop, .int .i64 d, .int .i64 e, .int .i64 a, .int .i64 b, .int .i64 f, .int .i64 cell, .int .u64 imm, .slice ao nA ac, .int .i64 nx, .int .i64 el] 64)).alloc (.cells #[.int .i64 a] 3))) := HW1.out.alloc (by simp) _
    have hs2 : w.heap.size + 1 + 1 ≤ ((w.alloc (.cells #[.int .u8 7, .int .u8 bop, .int .i64 d, .int .i64 e, .int .i64 a, .int .i64 b, .int .i64 f, .int .i64 cell, .int .u64 imm, .slice ao nA ac, .int .i64 nx, .int .i64 el] 64)).alloc (.cells #[.int .i64 a] 3)).heap.size := by simp
    rw [hz1] at HLR
    go_enter Tryd.func26, Tryd.ntmps26
    go_wp2_with (first | (go_at_call 48; refine (radd_any (w.heap.size + 1 + 1) _ 1 _ [a] _ HLR.out rfl HWF.out hs2 (by omega)).mono ?_; rintro ee w2 ⟨A2, c2, rfl, hr2, hc2, hb2⟩; have HR2 := Lib.hid hr2; have HB2 := Lib.hid hb2; clear hr2 hb2))
    go_ret
    exact NewI.mk' rfl rfl HR2.out hc2 HB2.out HW2.out
  · have HLR := Lib.hid (lit_reads (w.alloc (.cells #[.int .u8 8, .int .u8 bop, .int .i64 d, .int .i64 e, .int .i64 a, .int .i64 b, .int .i64 f, .int .i64 cell, .int .u64 imm, .slice ao nA ac, .int .i64 nx, .int .i64 el] 64)) 3 (i64c [a, b]) 2 rfl)
    have HWF : Hid (∀ x ∈ [a, b], I64 x) := Lib.hid (by intro x hx; simp at hx; rcases hx with rfl | rfl <;> assumption)
    have HW2 : Hid (Below w.heap.size w ((w.alloc (.cells #[.int .u8 8, .int .u8 bop, .int .i64 d, .int .i64 e, .int .i64 a, .int .i64 b, .int .i64 f, .int .i64 cell, .int .u64 imm, .slice ao nA ac, .int .i64 nx, .int .i64 el] 64)).alloc (.cells #[.int .i64 a, .int .i64 b] 3))) := HW1.out.alloc (by simp) _
    have hs2 : w.heap.size + 1 + 1 ≤ ((w.alloc (.cells #[.int .u8 8, .int .u8 bop, .int .i64 d, .int .i64 e, .int .i64 a, .int .i64 b, .int .i64 f, .int .i64 cell, .int .u64 imm, .slice ao nA ac, .int .i64 nx, .int .i64 el] 64)).alloc (.cells #[.int .i64 a, .int .i64 b] 3)).heap.size := by simp
    rw [hz1] at HLR
    go_enter Tryd.func26, Tryd.ntmps26
    go_wp2_with (first | (go_at_call 48; refine (radd_any (w.heap.size + 1 + 1) _ 2 _ [a, b] _ HLR.out rfl HWF.out hs2 (by omega)).mono ?_; rintro ee w2 ⟨A2, c2, rfl, hr2, hc2, hb2⟩; have HR2 := Lib.hid hr2; have HB2 := Lib.hid hb2; clear hr2 hb2))
    go_ret
    exact NewI.mk' rfl rfl HR2.out hc2 HB2.out HW2.out
  · have HLR := Lib.hid (lit_reads (w.alloc (.cells #[.int .u8 9, .int .u8 bop, .int .i64 d, .int .i64 e, .int .i64 a, .int .i64 b, .int .i64 f, .int .i64 cell, .int .u64 imm, .slice ao nA ac, .int .i64 nx, .int .i64 el] 64)) 3 (i64c [a]) 1 rfl)
    have HWF : Hid (∀ x ∈ [a], I64 x) := Lib.hid (by intro x hx; simp at hx; subst hx; assumption)
    have HW2 : Hid (Below w.heap.size w ((w.alloc (.cells #[.int .u8 9, .int .u8 bop, .int .i64 d, .int .i64 e, .int .i64 a, .int .i64 b, .int .i64 f, .int .i64 cell, .int .u64 imm, .slice ao nA ac, .int .i64 nx, .int .i64 el] 64)).alloc (.cells #[.int .i64 a] 3))) := HW1.out.alloc (by simp) _
    have hs2 : w.heap.size + 1 + 1 ≤ ((w.alloc (.cells #[.int .u8 9, .int .u8 bop, .int .i64 d, .int .i64 e, .int .i64 a, .int .i64 b, .int .i64 f, .int .i64 cell, .int .u64 imm, .slice ao nA ac, .int .i64 nx, .int .i64 el] 64)).alloc (.cells #[.int .i64 a] 3)).heap.size := by simp
    rw [hz1] at HLR
    go_enter Tryd.func26, Tryd.ntmps26
    go_wp2_with (first | (go_at_call 48; refine (radd_any (w.heap.size + 1 + 1) _ 1 _ [a] _ HLR.out rfl HWF.out hs2 (by omega)).mono ?_; rintro ee w2 ⟨A2, c2, rfl, hr2, hc2, hb2⟩; have HR2 := Lib.hid hr2; have HB2 := Lib.hid hb2; clear hr2 hb2))
    go_ret
    exact NewI.mk' rfl rfl HR2.out hc2 HB2.out HW2.out
  · go_enter Tryd.func26, Tryd.ntmps26
    go_wp2
    go_ret
    exact NewI.mk' (l := []) rfl rfl Reads.none_ (Nat.le_refl _) (Below.refl _ _) HW1.out
  · go_enter Tryd.func26, Tryd.ntmps26
    go_wp2_with (first | (go_at_call 48; refine (radd_any B ao nA ac args _ HH.out HL.out HA.out hB1 hnA).mono ?_; rintro ee w2 ⟨A2, c2, rfl, hr2, hc2, hb2⟩; have HR2 := Lib.hid hr2; have HB2 := Lib.hid hb2; clear hr2 hb2))
    go_ret
    exact NewI.mk' rfl rfl HR2.out hc2 HB2.out HW1.out
  · have HLR := Lib.hid (lit_reads (w.alloc (.cells #[.int .u8 12, .int .u8 bop, .int .i64 d, .int .i64 e, .int .i64 a, .int .i64 b, .int .i64 f, .int .i64 cell, .int .u64 imm, .slice ao nA ac, .int .i64 nx, .int .i64 el] 64)) 3 (i64c [a]) 1 rfl)
    have HWF : Hid (∀ x ∈ [a], I64 x) := Lib.hid (by intro x hx; simp at hx; subst hx; assumption)
    have HW2 : Hid (Below w.heap.size w ((w.alloc (.cells #[.int .u8 12, .int .u8 bop, .int .i64 d, .int .i64 e, .int .i64 a, .int .i64 b, .int .i64 f, .int .i64 cell, .int .u64 imm, .slice ao nA ac, .int .i64 nx, .int .i64 el] 64)).alloc (.cells #[.int .i64 a] 3))) := HW1.out.alloc (by simp) _
    have hs2 : w.heap.size + 1 + 1 ≤ ((w.alloc (.cells #[.int .u8 12, .int .u8 bop, .int .i64 d, .int .i64 e, .int .i64 a, .int .i64 b, .int .i64 f, .int .i64 cell, .int .u64 imm, .slice ao nA ac, .int .i64 nx, .int .i64 el] 64)).alloc (.cells #[.int .i64 a] 3)).heap.size := by simp
    rw [hz1] at HLR
    go_enter Tryd.func26, Tryd.ntmps26
    go_wp2_with (first | (go_at_call 48; refine (radd_any (w.heap.size + 1 + 1) _ 1 _ [a] _ HLR.out rfl HWF.out hs2 (by omega)).mono ?_; rintro ee w2 ⟨A2, c2, rfl, hr2, hc2, hb2⟩; have HR2 := Lib.hid hr2; have HB2 := Lib.hid hb2; clear hr2 hb2))
    go_ret
    exact NewI.mk' rfl rfl HR2.out hc2 HB2.out HW2.out
  · go_enter Tryd.func26, Tryd.ntmps26
    go_wp2_with (first | (go_at_call 48; refine (radd_any B ao nA ac args _ HH.out HL.out HA.out hB1 hnA).mono ?_; rintro ee w2 ⟨A2, c2, rfl, hr2, hc2, hb2⟩; have HR2 := Lib.hid hr2; have HB2 := Lib.hid hb2; clear hr2 hb2))
    go_ret
    exact NewI.mk' rfl rfl HR2.out hc2 HB2.out HW1.out
  · have HLR := Lib.hid (lit_reads (w.alloc (.cells #[.int .u8 14, .int .u8 bop, .int .i64 d, .int .i64 e, .int .i64 a, .int .i64 b, .int .i64 f, .int .i64 cell, .int .u64 imm, .slice ao nA ac, .int .i64 nx, .int .i64 el] 64)) 3 (i64c [a]) 1 rfl)
    have HWF : Hid (∀ x ∈ [a], I64 x) := Lib.hid (by intro x hx; simp at hx; subst hx; assumption)
    have HW2 : Hid (Below w.heap.size w ((w.alloc (.cells #[.int .u8 14, .int .u8 bop, .int .i64 d, .int .i64 e, .int .i64 a, .int .i64 b, .int .i64 f, .int .i64 cell, .int .u64 imm, .slice ao nA ac, .int .i64 nx, .int .i64 el] 64)).alloc (.cells #[.int .i64 a] 3))) := HW1.out.alloc (by simp) _
    have hs2 : w.heap.size + 1 + 1 ≤ ((w.alloc (.cells #[.int .u8 14, .int .u8 bop, .int .i64 d, .int .i64 e, .int .i64 a, .int .i64 b, .int .i64 f, .int .i64 cell, .int .u64 imm, .slice ao nA ac, .int .i64 nx, .int .i64 el] 64)).alloc (.cells #[.int .i64 a] 3)).heap.size := by simp
    rw [hz1] at HLR
    go_enter Tryd.func26, Tryd.ntmps26
    go_wp2_with (first | (go_at_call 48; refine (radd_any (w.heap.size + 1 + 1) _ 1 _ [a] _ HLR.out rfl HWF.out hs2 (by omega)).mono ?_; rintro ee w2 ⟨A2, c2, rfl, hr2, hc2, hb2⟩; have HR2 := Lib.hid hr2; have HB2 := Lib.hid hb2; clear hr2 hb2))
    go_ret
    exact NewI.mk' rfl rfl HR2.out hc2 HB2.out HW2.out
  · go_enter Tryd.func26, Tryd.ntmps26
    go_wp2
    go_ret
    exact NewI.mk' (l := []) rfl rfl Reads.none_ (Nat.le_refl _) (Below.refl _ _) HW1.out
  · go_enter Tryd.func26, Tryd.ntmps26
    go_wp2
    go_ret
    exact NewI.mk' (l := []) rfl rfl Reads.none_ (Nat.le_refl _) (Below.refl _ _) HW1.out
  · have HLR := Lib.hid (lit_reads (w.alloc (.cells #[.int .u8 17, .int .u8 bop, .int .i64 d, .int .i64 e, .int .i64 a, .int .i64 b, .int .i64 f, .int .i64 cell, .int .u64 imm, .slice ao nA ac, .int .i64 nx, .int .i64 el] 64)) 3 (i64c [a]) 1 rfl)
    have HWF : Hid (∀ x ∈ [a], I64 x) := Lib.hid (by intro x hx; simp at hx; subst hx; assumption)
    have HW2 : Hid (Below w.heap.size w ((w.alloc (.cells #[.int .u8 17, .int .u8 bop, .int .i64 d, .int .i64 e, .int .i64 a, .int .i64 b, .int .i64 f, .int .i64 cell, .int .u64 imm, .slice ao nA ac, .int .i64 nx, .int .i64 el] 64)).alloc (.cells #[.int .i64 a] 3))) := HW1.out.alloc (by simp) _
    have hs2 : w.heap.size + 1 + 1 ≤ ((w.alloc (.cells #[.int .u8 17, .int .u8 bop, .int .i64 d, .int .i64 e, .int .i64 a, .int .i64 b, .int .i64 f, .int .i64 cell, .int .u64 imm, .slice ao nA ac, .int .i64 nx, .int .i64 el] 64)).alloc (.cells #[.int .i64 a] 3)).heap.size := by simp
    rw [hz1] at HLR
    go_enter Tryd.func26, Tryd.ntmps26
    go_wp2_with (first | (go_at_call 48; refine (radd_any (w.heap.size + 1 + 1) _ 1 _ [a] _ HLR.out rfl HWF.out hs2 (by omega)).mono ?_; rintro ee w2 ⟨A2, c2, rfl, hr2, hc2, hb2⟩; have HR2 := Lib.hid hr2; have HB2 := Lib.hid hb2; clear hr2 hb2))
    go_ret
    exact NewI.mk' rfl rfl HR2.out hc2 HB2.out HW2.out
  · have HLR := Lib.hid (lit_reads (w.alloc (.cells #[.int .u8 18, .int .u8 bop, .int .i64 d, .int .i64 e, .int .i64 a, .int .i64 b, .int .i64 f, .int .i64 cell, .int .u64 imm, .slice ao nA ac, .int .i64 nx, .int .i64 el] 64)) 3 (i64c [a]) 1 rfl)
    have HWF : Hid (∀ x ∈ [a], I64 x) := Lib.hid (by intro x hx; simp at hx; subst hx; assumption)
    have HW2 : Hid (Below w.heap.size w ((w.alloc (.cells #[.int .u8 18, .int .u8 bop, .int .i64 d, .int .i64 e, .int .i64 a, .int .i64 b, .int .i64 f, .int .i64 cell, .int .u64 imm, .slice ao nA ac, .int .i64 nx, .int .i64 el] 64)).alloc (.cells #[.int .i64 a] 3))) := HW1.out.alloc (by simp) _
    have hs2 : w.heap.size + 1 + 1 ≤ ((w.alloc (.cells #[.int .u8 18, .int .u8 bop, .int .i64 d, .int .i64 e, .int .i64 a, .int .i64 b, .int .i64 f, .int .i64 cell, .int .u64 imm, .slice ao nA ac, .int .i64 nx, .int .i64 el] 64)).alloc (.cells #[.int .i64 a] 3)).heap.size := by simp
    rw [hz1] at HLR
    go_enter Tryd.func26, Tryd.ntmps26
    go_wp2_with (first | (go_at_call 48; refine (radd_any (w.heap.size + 1 + 1) _ 1 _ [a] _ HLR.out rfl HWF.out hs2 (by omega)).mono ?_; rintro ee w2 ⟨A2, c2, rfl, hr2, hc2, hb2⟩; have HR2 := Lib.hid hr2; have HB2 := Lib.hid hb2; clear hr2 hb2))
    go_ret
    exact NewI.mk' rfl rfl HR2.out hc2 HB2.out HW2.out
  · have hL : readsOf ⟨op, bop, d, e, a, b, f, cell, imm, args, nx, el⟩ = [] := by
      unfold readsOf
      simp only [readF]
      repeat rw [if_neg (by omega)]
      rfl
    have HLL := Lib.hid hL
    clear hL
    have g2 : (op == 2) = false := by simp; omega
    have g5 : (op == 5) = false := by simp; omega
    have g7 : (op == 7) = false := by simp; omega
    have g9 : (op == 9) = false := by simp; omega
    have g12 : (op == 12) = false := by simp; omega
    have g14 : (op == 14) = false := by simp; omega
    have g18 : (op == 18) = false := by simp; omega
    have g17 : (op == 17) = false := by simp; omega
    have g3 : (op == 3) = false := by simp; omega
    have g8 : (op == 8) = false := by simp; omega
    have g11 : (op == 11) = false := by simp; omega
    have g13 : (op == 13) = false := by simp; omega
    go_enter Tryd.func26, Tryd.ntmps26
    go_wp2
    go_ret
    exact NewI.mk' HLL.out.symm rfl Reads.none_ (Nat.le_refl _) (Below.refl _ _) HW1.out

set_option maxRecDepth 100000 in
set_option maxHeartbeats 6400000 in
theorem rwrites_any (B : Nat) (op bop d e a b f cell imm : Int) (args : List Int) (nx el : Int) (ao : Option Addr) (nA ac : Nat) (w : World) (ho0 : 0 ≤ op) (ho1 : op ≤ 255) (hd : I64 d) (he : I64 e) (ha : I64 a) (hb : I64 b) (hn : I64 nx) (hel : I64 el) (hr : Reads w B 1 ao nA (i64c args)) (hl : args.length = nA) (hargs : ∀ x ∈ args, I64 x) (hnA : nA * 8 ≤ 140737488351232) (hnc : nA ≤ ac) (hB : B ≤ w.heap.size) :
    Calls Tryd.prog 25 #[.agg #[.int .u8 op, .int .u8 bop, .int .i64 d, .int .i64 e, .int .i64 a, .int .i64 b, .int .i64 f, .int .i64 cell, .int .u64 imm, .slice ao nA ac, .int .i64 nx, .int .i64 el]] w (NewI w (writesOf ⟨op, bop, d, e, a, b, f, cell, imm, args, nx, el⟩)) := by
  have H := Lib.hid hr
  have HL := Lib.hid hl
  have HA := Lib.hid hargs
  have HW1 : Hid (Below w.heap.size w (w.alloc (.cells #[.int .u8 op, .int .u8 bop, .int .i64 d, .int .i64 e, .int .i64 a, .int .i64 b, .int .i64 f, .int .i64 cell, .int .u64 imm, .slice ao nA ac, .int .i64 nx, .int .i64 el] 64))) := (Below.refl _ _).alloc (Nat.le_refl _) _
  have HH : Hid (Reads (w.alloc (.cells #[.int .u8 op, .int .u8 bop, .int .i64 d, .int .i64 e, .int .i64 a, .int .i64 b, .int .i64 f, .int .i64 cell, .int .u64 imm, .slice ao nA ac, .int .i64 nx, .int .i64 el] 64)) B 1 ao nA (i64c args)) := Lib.hid (hr.below (HW1.out.mono hB))
  have hB1 : B ≤ (w.alloc (.cells #[.int .u8 op, .int .u8 bop, .int .i64 d, .int .i64 e, .int .i64 a, .int .i64 b, .int .i64 f, .int .i64 cell, .int .u64 imm, .slice ao nA ac, .int .i64 nx, .int .i64 el] 64)).heap.size := by simp; omega
  have hz1 : (w.alloc (.cells #[.int .u8 op, .int .u8 bop, .int .i64 d, .int .i64 e, .int .i64 a, .int .i64 b, .int .i64 f, .int .i64 cell, .int .u64 imm, .slice ao nA ac, .int .i64 nx, .int .i64 el] 64)).heap.size = w.heap.size + 1 := by simp
  clear hr hl hargs
  rcases op_cases ho0 ho1 with rfl | rfl | rfl | rfl | rfl | rfl | rfl | rfl | rfl | rfl | rfl | rfl | rfl | rfl | rfl | rfl | rfl | rfl | hop
  · have HLR := Lib.hid (lit_reads (w.alloc (.cells #[.int .u8 1, .int .u8 bop, .int .i64 d, .int .i64 e, .int .i64 a, .int .i64 b, .int .i64 f, .int .i64 cell, .int .u64 imm, .slice ao nA ac, .int .i64 nx, .int .i64 el] 64)) 3 (i64c [d]) 1 rfl)
    have HWF : Hid (∀ x ∈ [d], I64 x) := Lib.hid (by intro x hx; simp at hx; subst hx; assumption)
    have HW2 : Hid (Below w.heap.size w ((w.alloc (.cells #[.int .u8 1, .int .u8 bop, .int .i64 d, .int .i64 e, .int .i64 a, .int .i64 b, .int .i64 f, .int .i64 cell, .int .u64 imm, .slice ao nA ac, .int .i64 nx, .int .i64 el] 64)).alloc (.cells #[.int .i64 d] 3))) := HW1.out.alloc (by simp) _
    have hs2 : w.heap.size + 1 + 1 ≤ ((w.alloc (.cells #[.int .u8 1, .int .u8 bop, .int .i64 d, .int .i64 e, .int .i64 a, .int .i64 b, .int .i64 f, .int .i64 cell, .int .u64 imm, .slice ao nA ac, .int .i64 nx, .int .i64 el] 64)).alloc (.cells #[.int .i64 d] 3)).heap.size := by simp
    rw [hz1] at HLR
    go_enter Tryd.func25, Tryd.ntmps25
    go_wp2_with (first | (go_at_call 48; refine (radd_any (w.heap.size + 1 + 1) _ 1 _ [d] _ HLR.out rfl HWF.out hs2 (by omega)).mono ?_; rintro ee w2 ⟨A2, c2, rfl, hr2, hc2, hb2⟩; have HR2 := Lib.hid hr2; have HB2 := Lib.hid hb2; clear hr2 hb2))
    go_ret
    exact NewI.mk' rfl rfl HR2.out hc2 HB2.out HW2.out
  · have HLR := Lib.hid (lit_reads (w.alloc (.cells #[.int .u8 2, .int .u8 bop, .int .i64 d, .int .i64 e, .int .i64 a, .int .i64 b, .int .i64 f, .int .i64 cell, .int .u64 imm, .slice ao nA ac, .int .i64 nx, .int .i64 el] 64)) 3 (i64c [d]) 1 rfl)
    have HWF : Hid (∀ x ∈ [d], I64 x) := Lib.hid (by intro x hx; simp at hx; subst hx; assumption)
    have HW2 : Hid (Below w.heap.size w ((w.alloc (.cells #[.int .u8 2, .int .u8 bop, .int .i64 d, .int .i64 e, .int .i64 a, .int .i64 b, .int .i64 f, .int .i64 cell, .int .u64 imm, .slice ao nA ac, .int .i64 nx, .int .i64 el] 64)).alloc (.cells #[.int .i64 d] 3))) := HW1.out.alloc (by simp) _
    have hs2 : w.heap.size + 1 + 1 ≤ ((w.alloc (.cells #[.int .u8 2, .int .u8 bop, .int .i64 d, .int .i64 e, .int .i64 a, .int .i64 b, .int .i64 f, .int .i64 cell, .int .u64 imm, .slice ao nA ac, .int .i64 nx, .int .i64 el] 64)).alloc (.cells #[.int .i64 d] 3)).heap.size := by simp
    rw [hz1] at HLR
    go_enter Tryd.func25, Tryd.ntmps25
    go_wp2_with (first | (go_at_call 48; refine (radd_any (w.heap.size + 1 + 1) _ 1 _ [d] _ HLR.out rfl HWF.out hs2 (by omega)).mono ?_; rintro ee w2 ⟨A2, c2, rfl, hr2, hc2, hb2⟩; have HR2 := Lib.hid hr2; have HB2 := Lib.hid hb2; clear hr2 hb2))
    go_ret
    exact NewI.mk' rfl rfl HR2.out hc2 HB2.out HW2.out
  · have HLR := Lib.hid (lit_reads (w.alloc (.cells #[.int .u8 3, .int .u8 bop, .int .i64 d, .int .i64 e, .int .i64 a, .int .i64 b, .int .i64 f, .int .i64 cell, .int .u64 imm, .slice ao nA ac, .int .i64 nx, .int .i64 el] 64)) 3 (i64c [d]) 1 rfl)
    have HWF : Hid (∀ x ∈ [d], I64 x) := Lib.hid (by intro x hx; simp at hx; subst hx; assumption)
    have HW2 : Hid (Below w.heap.size w ((w.alloc (.cells #[.int .u8 3, .int .u8 bop, .int .i64 d, .int .i64 e, .int .i64 a, .int .i64 b, .int .i64 f, .int .i64 cell, .int .u64 imm, .slice ao nA ac, .int .i64 nx, .int .i64 el] 64)).alloc (.cells #[.int .i64 d] 3))) := HW1.out.alloc (by simp) _
    have hs2 : w.heap.size + 1 + 1 ≤ ((w.alloc (.cells #[.int .u8 3, .int .u8 bop, .int .i64 d, .int .i64 e, .int .i64 a, .int .i64 b, .int .i64 f, .int .i64 cell, .int .u64 imm, .slice ao nA ac, .int .i64 nx, .int .i64 el] 64)).alloc (.cells #[.int .i64 d] 3)).heap.size := by simp
    rw [hz1] at HLR
    go_enter Tryd.func25, Tryd.ntmps25
    go_wp2_with (first | (go_at_call 48; refine (radd_any (w.heap.size + 1 + 1) _ 1 _ [d] _ HLR.out rfl HWF.out hs2 (by omega)).mono ?_; rintro ee w2 ⟨A2, c2, rfl, hr2, hc2, hb2⟩; have HR2 := Lib.hid hr2; have HB2 := Lib.hid hb2; clear hr2 hb2))
    go_ret
    exact NewI.mk' rfl rfl HR2.out hc2 HB2.out HW2.out
  · have HLR := Lib.hid (lit_reads (w.alloc (.cells #[.int .u8 4, .int .u8 bop, .int .i64 d, .int .i64 e, .int .i64 a, .int .i64 b, .int .i64 f, .int .i64 cell, .int .u64 imm, .slice ao nA ac, .int .i64 nx, .int .i64 el] 64)) 3 (i64c [d]) 1 rfl)
    have HWF : Hid (∀ x ∈ [d], I64 x) := Lib.hid (by intro x hx; simp at hx; subst hx; assumption)
    have HW2 : Hid (Below w.heap.size w ((w.alloc (.cells #[.int .u8 4, .int .u8 bop, .int .i64 d, .int .i64 e, .int .i64 a, .int .i64 b, .int .i64 f, .int .i64 cell, .int .u64 imm, .slice ao nA ac, .int .i64 nx, .int .i64 el] 64)).alloc (.cells #[.int .i64 d] 3))) := HW1.out.alloc (by simp) _
    have hs2 : w.heap.size + 1 + 1 ≤ ((w.alloc (.cells #[.int .u8 4, .int .u8 bop, .int .i64 d, .int .i64 e, .int .i64 a, .int .i64 b, .int .i64 f, .int .i64 cell, .int .u64 imm, .slice ao nA ac, .int .i64 nx, .int .i64 el] 64)).alloc (.cells #[.int .i64 d] 3)).heap.size := by simp
    rw [hz1] at HLR
    go_enter Tryd.func25, Tryd.ntmps25
    go_wp2_with (first | (go_at_call 48; refine (radd_any (w.heap.size + 1 + 1) _ 1 _ [d] _ HLR.out rfl HWF.out hs2 (by omega)).mono ?_; rintro ee w2 ⟨A2, c2, rfl, hr2, hc2, hb2⟩; have HR2 := Lib.hid hr2; have HB2 := Lib.hid hb2; clear hr2 hb2))
    go_ret
    exact NewI.mk' rfl rfl HR2.out hc2 HB2.out HW2.out
  · go_enter Tryd.func25, Tryd.ntmps25
    go_wp2
    go_ret
    exact NewI.mk' (l := []) rfl rfl Reads.none_ (Nat.le_refl _) (Below.refl _ _) HW1.out
  · have HLR := Lib.hid (lit_reads (w.alloc (.cells #[.int .u8 6, .int .u8 bop, .int .i64 d, .int .i64 e, .int .i64 a, .int .i64 b, .int .i64 f, .int .i64 cell, .int .u64 imm, .slice ao nA ac, .int .i64 nx, .int .i64 el] 64)) 3 (i64c [d]) 1 rfl)
    have HWF : Hid (∀ x ∈ [d], I64 x) := Lib.hid (by intro x hx; simp at hx; subst hx; assumption)
    have HW2 : Hid (Below w.heap.size w ((w.alloc (.cells #[.int .u8 6, .int .u8 bop, .int .i64 d, .int .i64 e, .int .i64 a, .int .i64 b, .int .i64 f, .int .i64 cell, .int .u64 imm, .slice ao nA ac, .int .i64 nx, .int .i64 el] 64)).alloc (.cells #[.int .i64 d] 3))) := HW1.out.alloc (by simp) _
    have hs2 : w.heap.size + 1 + 1 ≤ ((w.alloc (.cells #[.int .u8 6, .int .u8 bop, .int .i64 d, .int .i64 e, .int .i64 a, .int .i64 b, .int .i64 f, .int .i64 cell, .int .u64 imm, .slice ao nA ac, .int .i64 nx, .int .i64 el] 64)).alloc (.cells #[.int .i64 d] 3)).heap.size := by simp
    rw [hz1] at HLR
    go_enter Tryd.func25, Tryd.ntmps25
    go_wp2_with (first | (go_at_call 48; refine (radd_any (w.heap.size + 1 + 1) _ 1 _ [d] _ HLR.out rfl HWF.out hs2 (by omega)).mono ?_; rintro ee w2 ⟨A2, c2, rfl, hr2, hc2, hb2⟩; have HR2 := Lib.hid hr2; have HB2 := Lib.hid hb2; clear hr2 hb2))
    go_ret
    exact NewI.mk' rfl rfl HR2.out hc2 HB2.out HW2.out
  · have HLR := Lib.hid (lit_reads (w.alloc (.cells #[.int .u8 7, .int .u8 bop, .int .i64 d, .int .i64 e, .int .i64 a, .int .i64 b, .int .i64 f, .int .i64 cell, .int .u64 imm, .slice ao nA ac, .int .i64 nx, .int .i64 el] 64)) 3 (i64c [d]) 1 rfl)
    have HWF : Hid (∀ x ∈ [d], I64 x) := Lib.hid (by intro x hx; simp at hx; subst hx; assumption)
    have HW2 : Hid (Below w.heap.size w ((w.alloc (.cells #[.int .u8 7, .int .u8 bop, .int .i64 d, .int .i64 e, .int .i64 a, .int .i64 b, .int .i64 f, .int .i64 cell, .int .u64 imm, .slice ao nA ac, .int .i64 nx, .int .i64 el] 64)).alloc (.cells #[.int .i64 d] 3))) := HW1.out.alloc (by simp) _
    have hs2 : w.heap.size + 1 + 1 ≤ ((w.alloc (.cells #[.int .u8 7, .int .u8 bop, .int .i64 d, .int .i64 e, .int .i64 a, .int .i64 b, .int .i64 f, .int .i64 cell, .int .u64 imm, .slice ao nA ac, .int .i64 nx, .int .i64 el] 64)).alloc (.cells #[.int .i64 d] 3)).heap.size := by simp
    rw [hz1] at HLR
    go_enter Tryd.func25, Tryd.ntmps25
    go_wp2_with (first | (go_at_call 48; refine (radd_any (w.heap.size + 1 + 1) _ 1 _ [d] _ HLR.out rfl HWF.out hs2 (by omega)).mono ?_; rintro ee w2 ⟨A2, c2, rfl, hr2, hc2, hb2⟩; have HR2 := Lib.hid hr2; have HB2 := Lib.hid hb2; clear hr2 hb2))
    go_ret
    exact NewI.mk' rfl rfl HR2.out hc2 HB2.out HW2.out
  · go_enter Tryd.func25, Tryd.ntmps25
    go_wp2
    go_ret
    exact NewI.mk' (l := []) rfl rfl Reads.none_ (Nat.le_refl _) (Below.refl _ _) HW1.out
  · go_enter Tryd.func25, Tryd.ntmps25
    go_wp2
    go_ret
    exact NewI.mk' (l := []) rfl rfl Reads.none_ (Nat.le_refl _) (Below.refl _ _) HW1.out
  · go_enter Tryd.func25, Tryd.ntmps25
    go_wp2
    go_ret
    exact NewI.mk' (l := []) rfl rfl Reads.none_ (Nat.le_refl _) (Below.refl _ _) HW1.out
  · have HLR := Lib.hid (lit_reads (w.alloc (.cells #[.int .u8 11, .int .u8 bop, .int .i64 d, .int .i64 e, .int .i64 a, .int .i64 b, .int .i64 f, .int .i64 cell, .int .u64 imm, .slice ao nA ac, .int .i64 nx, .int .i64 el] 64)) 3 (i64c [d]) 1 rfl)
    have HWF : Hid (∀ x ∈ [d], I64 x) := Lib.hid (by intro x hx; simp at hx; subst hx; assumption)
    have HW2 : Hid (Below w.heap.size w ((w.alloc (.cells #[.int .u8 11, .int .u8 bop, .int .i64 d, .int .i64 e, .int .i64 a, .int .i64 b, .int .i64 f, .int .i64 cell, .int .u64 imm, .slice ao nA ac, .int .i64 nx, .int .i64 el] 64)).alloc (.cells #[.int .i64 d] 3))) := HW1.out.alloc (by simp) _
    have hs2 : w.heap.size + 1 + 1 ≤ ((w.alloc (.cells #[.int .u8 11, .int .u8 bop, .int .i64 d, .int .i64 e, .int .i64 a, .int .i64 b, .int .i64 f, .int .i64 cell, .int .u64 imm, .slice ao nA ac, .int .i64 nx, .int .i64 el] 64)).alloc (.cells #[.int .i64 d] 3)).heap.size := by simp
    rw [hz1] at HLR
    go_enter Tryd.func25, Tryd.ntmps25
    go_wp2_with (first | (go_at_call 48; refine (radd_any (w.heap.size + 1 + 1) _ 1 _ [d] _ HLR.out rfl HWF.out hs2 (by omega)).mono ?_; rintro ee w2 ⟨A2, c2, rfl, hr2, hc2, hb2⟩; have HR2 := Lib.hid hr2; have HB2 := Lib.hid hb2; clear hr2 hb2))
    go_ret
    exact NewI.mk' rfl rfl HR2.out hc2 HB2.out HW2.out
  · go_enter Tryd.func25, Tryd.ntmps25
    go_wp2
    go_ret
    exact NewI.mk' (l := []) rfl rfl Reads.none_ (Nat.le_refl _) (Below.refl _ _) HW1.out
  · go_enter Tryd.func25, Tryd.ntmps25
    go_wp2
    go_ret
    exact NewI.mk' (l := []) rfl rfl Reads.none_ (Nat.le_refl _) (Below.refl _ _) HW1.out
  · go_enter Tryd.func25, Tryd.ntmps25
    go_wp2
    go_ret
    exact NewI.mk' (l := []) rfl rfl Reads.none_ (Nat.le_refl _) (Below.refl _ _) HW1.out
  · have HLR := Lib.hid (lit_reads (w.alloc (.cells #[.int .u8 15, .int .u8 bop, .int .i64 d, .int .i64 e, .int .i64 a, .int .i64 b, .int .i64 f, .int .i64 cell, .int .u64 imm, .slice ao nA ac, .int .i64 nx, .int .i64 el] 64)) 3 (i64c [d, e]) 2 rfl)
    have HWF : Hid (∀ x ∈ [d, e], I64 x) := Lib.hid (by intro x hx; simp at hx; rcases hx with rfl | rfl <;> assumption)
    have HW2 : Hid (Below w.heap.size w ((w.alloc (.cells #[.int .u8 15, .int .u8 bop, .int .i64 d, .int .i64 e, .int .i64 a, .int .i64 b, .int .i64 f, .int .i64 cell, .int .u64 imm, .slice ao nA ac, .int .i64 nx, .int .i64 el] 64)).alloc (.cells #[.int .i64 d, .int .i64 e] 3))) := HW1.out.alloc (by simp) _
    have hs2 : w.heap.size + 1 + 1 ≤ ((w.alloc (.cells #[.int .u8 15, .int .u8 bop, .int .i64 d, .int .i64 e, .int .i64 a, .int .i64 b, .int .i64 f, .int .i64 cell, .int .u64 imm, .slice ao nA ac, .int .i64 nx, .int .i64 el] 64)).alloc (.cells #[.int .i64 d, .int .i64 e] 3)).heap.size := by simp
    rw [hz1] at HLR
    go_enter Tryd.func25, Tryd.ntmps25
    go_wp2_with (first | (go_at_call 48; refine (radd_any (w.heap.size + 1 + 1) _ 2 _ [d, e] _ HLR.out rfl HWF.out hs2 (by omega)).mono ?_; rintro ee w2 ⟨A2, c2, rfl, hr2, hc2, hb2⟩; have HR2 := Lib.hid hr2; have HB2 := Lib.hid hb2; clear hr2 hb2))
    go_ret
    exact NewI.mk' rfl rfl HR2.out hc2 HB2.out HW2.out
  · have HLR := Lib.hid (lit_reads (w.alloc (.cells #[.int .u8 16, .int .u8 bop, .int .i64 d, .int .i64 e, .int .i64 a, .int .i64 b, .int .i64 f, .int .i64 cell, .int .u64 imm, .slice ao nA ac, .int .i64 nx, .int .i64 el] 64)) 3 (i64c [d]) 1 rfl)
    have HWF : Hid (∀ x ∈ [d], I64 x) := Lib.hid (by intro x hx; simp at hx; subst hx; assumption)
    have HW2 : Hid (Below w.heap.size w ((w.alloc (.cells #[.int .u8 16, .int .u8 bop, .int .i64 d, .int .i64 e, .int .i64 a, .int .i64 b, .int .i64 f, .int .i64 cell, .int .u64 imm, .slice ao nA ac, .int .i64 nx, .int .i64 el] 64)).alloc (.cells #[.int .i64 d] 3))) := HW1.out.alloc (by simp) _
    have hs2 : w.heap.size + 1 + 1 ≤ ((w.alloc (.cells #[.int .u8 16, .int .u8 bop, .int .i64 d, .int .i64 e, .int .i64 a, .int .i64 b, .int .i64 f, .int .i64 cell, .int .u64 imm, .slice ao nA ac, .int .i64 nx, .int .i64 el] 64)).alloc (.cells #[.int .i64 d] 3)).heap.size := by simp
    rw [hz1] at HLR
    go_enter Tryd.func25, Tryd.ntmps25
    go_wp2_with (first | (go_at_call 48; refine (radd_any (w.heap.size + 1 + 1) _ 1 _ [d] _ HLR.out rfl HWF.out hs2 (by omega)).mono ?_; rintro ee w2 ⟨A2, c2, rfl, hr2, hc2, hb2⟩; have HR2 := Lib.hid hr2; have HB2 := Lib.hid hb2; clear hr2 hb2))
    go_ret
    exact NewI.mk' rfl rfl HR2.out hc2 HB2.out HW2.out
  · go_enter Tryd.func25, Tryd.ntmps25
    go_wp2
    go_ret
    exact NewI.mk' (l := []) rfl rfl Reads.none_ (Nat.le_refl _) (Below.refl _ _) HW1.out
  · go_enter Tryd.func25, Tryd.ntmps25
    go_wp2
    go_ret
    exact NewI.mk' (l := []) rfl rfl Reads.none_ (Nat.le_refl _) (Below.refl _ _) HW1.out
  · have hL : writesOf ⟨op, bop, d, e, a, b, f, cell, imm, args, nx, el⟩ = [] := by
      unfold writesOf
      simp only [writeF]
      repeat rw [if_neg (by omega)]
      rfl
    have HLL := Lib.hid hL
    clear hL
    have g1 : (op == 1) = false := by simp; omega
    have g2 : (op == 2) = false := by simp; omega
    have g3 : (op == 3) = false := by simp; omega
    have g4 : (op == 4) = false := by simp; omega
    have g6 : (op == 6) = false := by simp; omega
    have g7 : (op == 7) = false := by simp; omega
    have g11 : (op == 11) = false := by simp; omega
    have g16 : (op == 16) = false := by simp; omega
    have g15 : (op == 15) = false := by simp; omega
    go_enter Tryd.func25, Tryd.ntmps25
    go_wp2
    go_ret
    exact NewI.mk' HLL.out.symm rfl Reads.none_ (Nat.le_refl _) (Below.refl _ _) HW1.out
end Go.Proofs.YtmfdaeicbaibeaaDoor
