/-
  The document's begin.
-/
import Derived.Test.YtbpobbadmbafaaaDoorTRefO
import Derived.Test.YtbpobbadmbafaaaDoorTProg
import Derived.Test.YtbpobbadmbafaaaDoorOwn
import Derived.Test.YtbpobbadmbafaaaDoorRefSame
namespace Go.Proofs.YtbpobbadmbafaaaDoor
set_option linter.unusedVariables false
open Go.ChangeShapes Go.WideShapes Go.ChangeAt Go.RowKit

/-- what 'begin' answers -/
def BegPost (ws : List (List UInt8)) (w : World) (e : Ending) (w' : World) : Prop :=
  ∃ (r : Raw) (ok : Bool), e = .returned (.tuple #[.agg #[.int .i64 r.fn.params, .slice r.lo r.fn.locals.length r.lc, .bool r.fn.result, .int .i64 r.fn.keep, .slice none 0 0], .bool ok]) ∧ (∀ x, ws = funcW :: x → fnL x = if ok then some r.fn else none) ∧ (r.co = none ∧ r.cc = 0 ∧ r.fn.code = []) ∧ w'.ownsRow w.heap.size 53 1 (.slice r.lo r.fn.locals.length r.lc) r.fn.locals.length (u8c r.fn.locals) ∧ WfF r.fn ∧ Below w.heap.size w w'
theorem lettersD_at {b : List UInt8} {k : Nat} {y : UInt8} (h : b[k]? = some y) : (b.take (k + 1)).map (fun y => if y = 112 then (1 : Int) else 0) = (b.take k).map (fun y => if y = 112 then (1 : Int) else 0) ++ [if y = 112 then 1 else 0] := by
  rw [take_snoc8 h, List.map_append]
  rfl
theorem letters_byt (b : List UInt8) : Byt (b.map (fun y => if y = 112 then (1 : Int) else 0)) := by
  intro x hx
  rw [List.mem_map] at hx
  obtain ⟨y, _, rfl⟩ := hx
  split <;> omega
/-- the function's box as begin fills it -/
def begF (n : Int) (lo : Option Addr) (m lc : Nat) (r : Bool) (k : Int) : Array Value := #[.int .i64 n, .slice lo m lc, .bool r, .int .i64 k, .slice none 0 0]
theorem beg_mk {ws : List (List UInt8)} {w W : World} (pn : Nat) (hp : pn ≤ 255) (LS : List Int) (k lc : Nat) (lo : Option Addr) (fl : Bool) (kp : Int) (hk : LS.length = k) (hkl : k ≤ 1073741824) (hbt : Byt LS) (h0 : -1 ≤ kp) (h1 : kp ≤ 254) (ok : Bool)
    (hf : ∀ x, ws = funcW :: x → fnL x = if ok then some ⟨(pn : Int), LS, fl, kp, []⟩ else none) (ho : W.ownsRow w.heap.size 53 1 (.slice lo k lc) k (u8c LS)) (hb : Below w.heap.size w W) :
    BegPost ws w (.returned (.tuple #[.agg #[.int .i64 pn, .slice lo k lc, .bool fl, .int .i64 kp, .slice none 0 0], .bool ok])) W := by
  subst hk
  exact ⟨⟨⟨(pn : Int), LS, fl, kp, []⟩, lo, lc, none, 0⟩, ok, rfl, hf, ⟨rfl, rfl, rfl⟩, ho, ⟨by simp only; omega, by simp only; omega, by simp only; omega, by simp only; omega, hbt, (fun i hi => by cases hi), by simp only; omega, by simp⟩, hb⟩
theorem own_put {w : World} {base size n p : Nat} {e : TypeId} {v : Value} {xs : List Value} (h : w.ownsRow base e size v n xs) (hp : p < base) (i : Nat) (u : Value) : (w.setCell ⟨p, i, none⟩ u).ownsRow base e size v n xs :=
  own_kept h fun j hj => Below.heap_setCell _ _ _ _ fun hij => by have := (own_block_le h hj).1; rw [hij] at this; simp at this; omega
theorem beg_len {ws : List (List UInt8)} (r : Raw) (h : ws.length ≠ 5) : ∀ x, ws = funcW :: x → fnL x = if false then some r.fn else none := by
  rintro x rfl
  have hx : x.length ≠ 4 := by simpa using h
  unfold fnL
  split
  · simp at hx
  · rfl
theorem beg_no {ws : List (List UInt8)} {w0 a b c d : List UInt8} (r : Raw) (hws : ws = [w0, a, b, c, d]) (hg : GoodW ws) (h : fnD a b c d = none) : ∀ x, ws = funcW :: x → fnL x = if false then some r.fn else none := by
  rintro x hx
  rw [hws] at hx
  injection hx with h1 h2
  subst h1 h2
  cases hf : fnL [a, b, c, d] with
  | none => rfl
  | some f =>
    rw [hws] at hg
    have := ((fnL_iff hg f).1 hf).1
    rw [h] at this; cases this
theorem beg_end {ws : List (List UInt8)} {w0 a b c d : List UInt8} {f : Fn} (hws : ws = [w0, a, b, c, d]) (hg : GoodW ws) (h : fnD a b c d = some f) (ok : Bool) (hok : ok = decide (headW f = joinS ws)) : ∀ x, ws = funcW :: x → fnL x = if ok then some f else none := by
  rintro x hx
  rw [hws] at hx
  injection hx with h1 h2
  subst h1 h2
  rw [hws] at hg hok
  by_cases hj : headW f = joinS [funcW, a, b, c, d]
  · have : ok = true := by rw [hok]; simpa using hj
    rw [this, if_pos rfl]
    exact (fnL_iff hg f).2 ⟨h, hj⟩
  · have : ok = false := by rw [hok]; simpa using hj
    rw [this]
    cases hf : fnL [a, b, c, d] with
    | none => rfl
    | some g =>
      obtain ⟨h1, h2⟩ := (fnL_iff hg g).1 hf
      rw [h] at h1
      injection h1 with h1
      subst h1
      exact absurd h2 hj

set_option maxRecDepth 100000 in
set_option maxHeartbeats 16000000 in
theorem begin_any (B : Nat) (A : Option Addr) (cA : Nat) (ws : List (List UInt8)) (w : World) (h : Reads w B 1 A ws.length (strs ws)) (hB : B ≤ w.heap.size) (hg : GoodW ws) (hl : ws.length ≤ 1073741825) (hm : ∀ x ∈ ws, x.length ≤ 1073741824) (hj : (joinS ws).length ≤ 2147483648) :
    Calls Tryd.prog 13 #[.slice A ws.length cA] w (BegPost ws w) := by
  have HJD := Lib.hid (fun (W : World) (hW : Below w.heap.size w W) => joined_any B A cA ws W (h.below (hW.mono hB)) hl hj)
  obtain ⟨JS, HJS⟩ : ∃ S, Hid (S = str (joinS ws)) := ⟨_, Lib.hid rfl⟩
  rw [← HJS.out] at HJD
  obtain ⟨n, HN⟩ : ∃ n, Hid (n = ws.length) := ⟨_, Lib.hid rfl⟩
  rw [← HN.out] at h hl HJD ⊢
  have HR := Lib.hid h
  have HG := Lib.hid hg
  have HM := Lib.hid hm
  have HX0 : Hid (Blk ((w.alloc (.cells #[.int .i64 0, .slice none 0 0, .bool false, .int .i64 0, .slice none 0 0] 36)).alloc (.cells #[.int .i64 0, .slice none 0 0, .bool false, .int .i64 (-1), .slice none 0 0] 36)) w.heap.size 36 #[.int .i64 0, .slice none 0 0, .bool false, .int .i64 0, .slice none 0 0]) := Lib.hid ((Blk.new w _ _).alloc _)
  have HY0 : Hid (Blk ((w.alloc (.cells #[.int .i64 0, .slice none 0 0, .bool false, .int .i64 0, .slice none 0 0] 36)).alloc (.cells #[.int .i64 0, .slice none 0 0, .bool false, .int .i64 (-1), .slice none 0 0] 36)) (w.heap.size + 1) 36 #[.int .i64 0, .slice none 0 0, .bool false, .int .i64 (-1), .slice none 0 0]) := Lib.hid (blk_second w _ _ _ _)
  have HB0 : Hid (Below w.heap.size w ((w.alloc (.cells #[.int .i64 0, .slice none 0 0, .bool false, .int .i64 0, .slice none 0 0] 36)).alloc (.cells #[.int .i64 0, .slice none 0 0, .bool false, .int .i64 (-1), .slice none 0 0] 36))) := Lib.hid (((Below.refl _ _).alloc (Nat.le_refl _) _).alloc (by simp) _)
  clear h hg hm hj
  by_cases hn5 : n = 5
  rotate_left
  · have g5 : ((n : Int) != 5) = true := by simp; omega
    have g5' : (n != 5) = true := by simp; omega
    have hne : ws.length ≠ 5 := by rw [← HN.out]; exact hn5
    have HX8 : Hid (Blk ((w.alloc (.cells #[.int .i64 0, .slice none 0 0, .bool false, .int .i64 (-1), .slice none 0 0] 36)).alloc (.cells #[.int .i64 0, .slice none 0 0, .bool false, .int .i64 (-1), .slice none 0 0] 36)) w.heap.size 36 #[.int .i64 0, .slice none 0 0, .bool false, .int .i64 (-1), .slice none 0 0]) := Lib.hid ((Blk.new w _ _).alloc _)
    have HRT : Hid (BegPost ws w (.returned (.tuple #[.agg #[.int .i64 0, .slice none 0 0, .bool false, .int .i64 (-1), .slice none 0 0], .bool false])) ((w.alloc (.cells #[.int .i64 0, .slice none 0 0, .bool false, .int .i64 (-1), .slice none 0 0] 36)).alloc (.cells #[.int .i64 0, .slice none 0 0, .bool false, .int .i64 (-1), .slice none 0 0] 36))) := Lib.hid ⟨⟨⟨0, [], false, -1, []⟩, none, 0, none, 0⟩, false, rfl, beg_len ⟨⟨0, [], false, -1, []⟩, none, 0, none, 0⟩ hne, ⟨rfl, rfl, rfl⟩, own_none _ _ _ _, ⟨by simp only; omega, by simp only; omega, by simp only; omega, by simp only; omega, Byt.nil, (fun i hi => by cases hi), by simp, by simp⟩, ((Below.refl _ _).alloc (Nat.le_refl _) _).alloc (by simp) _⟩
    clear hn5 hne
    go_enter Tryd.func13, Tryd.ntmps13
    go_wp2
    have s0 := HX8.out.cell 0
    have s1 := HX8.out.cell 1
    have s2 := HX8.out.cell 2
    have s3 := HX8.out.cell 3
    have s4 := HX8.out.cell 4
    exact bodyPost_ret (v := .tuple #[.agg #[.int .i64 0, .slice none 0 0, .bool false, .int .i64 (-1), .slice none 0 0], .bool false]) (by simp [results, Tryd.results13, go_sem, s0, s1, s2, s3, s4]) rfl HRT.out
  subst hn5
  obtain ⟨w0, a, b, c, d, hws⟩ : ∃ w0 a b c d, ws = [w0, a, b, c, d] := by
    have h := HN.out
    match ws, h with
    | [a, b, c, d, e], _ => exact ⟨a, b, c, d, e, rfl⟩
  have HWS := Lib.hid hws
  have hla := HM.out a (by rw [hws]; simp)
  have hlb := HM.out b (by rw [hws]; simp)
  have hld := HM.out d (by rw [hws]; simp)
  obtain ⟨Za, HZa⟩ : ∃ Z, Hid (Z = str a) := ⟨_, Lib.hid rfl⟩
  obtain ⟨Zb, HZb⟩ : ∃ Z, Hid (Z = str b) := ⟨_, Lib.hid rfl⟩
  obtain ⟨Zc, HZc⟩ : ∃ Z, Hid (Z = str c) := ⟨_, Lib.hid rfl⟩
  obtain ⟨Zd, HZd⟩ : ∃ Z, Hid (Z = str d) := ⟨_, Lib.hid rfl⟩
  have hzb : Zb.size ≤ 1073741824 := by rw [HZb.out, str_size]; exact hlb
  have HLb : Hid (Zb.size = b.length) := Lib.hid (by rw [HZb.out, str_size])
  have HBy : Hid (∀ (k : Nat) (h : k < Zb.size), b[k]? = some Zb[k]) := Lib.hid (by
    intro k hk
    have e : b = Zb.data.toList := by rw [HZb.out, str_list]
    have h3 : k < Zb.data.toList.length := by simpa using hk
    rw [e, List.getElem?_eq_getElem h3]
    rfl)
  obtain ⟨ab, ao, rfl, hab, hcells⟩ := HR.out.lit (by omega) (by omega)
  have HC : Hid (∀ W : World, Below w.heap.size w W → W.cell? ⟨ab, ao + 1, none⟩ = some (.string Za) ∧ W.cell? ⟨ab, ao + 2, none⟩ = some (.string Zb) ∧ W.cell? ⟨ab, ao + 3, none⟩ = some (.string Zc) ∧ W.cell? ⟨ab, ao + 4, none⟩ = some (.string Zd)) := Lib.hid (by
    intro W hW
    have e : strs ws = [.string (str w0), .string Za, .string Zb, .string Zc, .string Zd] := by rw [hws, HZa.out, HZb.out, HZc.out, HZd.out]; rfl
    rw [e] at hcells
    have hk : ∀ p : Addr, p.block = ab → W.cell? p = w.cell? p := fun p hp => hW.cell (p := p) (by omega)
    exact ⟨(hk _ rfl).trans (hcells 1 _ rfl), (hk _ rfl).trans (hcells 2 _ rfl), (hk _ rfl).trans (hcells 3 _ rfl), (hk _ rfl).trans (hcells 4 _ rfl)⟩)
  clear hcells hws hlb
  have ca : ∀ o1 o2 : Obj, ((w.alloc o1).alloc o2).cell? ⟨ab, ao + 1, none⟩ = some (.string Za) := fun o1 o2 => (HC.out _ (((Below.refl _ _).alloc (Nat.le_refl _) _).alloc (by simp) _)).1
  have hab' : ab < w.heap.size := by omega
  cases hna : numOf a with
  | none =>
    have HV := Lib.hid (value_q hla HZa.out 0 false (by rw [hna]; rfl) (by rw [hna]; rfl))
    have hfn : fnD a b c d = none := by unfold fnD; rw [hna]
    have HX8 : Hid (Blk ((w.alloc (.cells #[.int .i64 0, .slice none 0 0, .bool false, .int .i64 (-1), .slice none 0 0] 36)).alloc (.cells #[.int .i64 0, .slice none 0 0, .bool false, .int .i64 (-1), .slice none 0 0] 36)) w.heap.size 36 #[.int .i64 0, .slice none 0 0, .bool false, .int .i64 (-1), .slice none 0 0]) := Lib.hid ((Blk.new w _ _).alloc _)
    have HRT : Hid (BegPost ws w (.returned (.tuple #[.agg #[.int .i64 0, .slice none 0 0, .bool false, .int .i64 (-1), .slice none 0 0], .bool false])) ((w.alloc (.cells #[.int .i64 0, .slice none 0 0, .bool false, .int .i64 (-1), .slice none 0 0] 36)).alloc (.cells #[.int .i64 0, .slice none 0 0, .bool false, .int .i64 (-1), .slice none 0 0] 36))) := Lib.hid ⟨⟨⟨0, [], false, -1, []⟩, none, 0, none, 0⟩, false, rfl, beg_no ⟨⟨0, [], false, -1, []⟩, none, 0, none, 0⟩ HWS.out HG.out hfn, ⟨rfl, rfl, rfl⟩, own_none _ _ _ _, ⟨by simp only; omega, by simp only; omega, by simp only; omega, by simp only; omega, Byt.nil, (fun i hi => by cases hi), by simp, by simp⟩, ((Below.refl _ _).alloc (Nat.le_refl _) _).alloc (by simp) _⟩
    clear hna hfn hla hld
    go_enter Tryd.func13, Tryd.ntmps13
    go_wp2_with (go_at_call 21; refine (HV.out _).mono ?_; rintro e w5 ⟨rfl, rfl⟩)
    have s0 := HX8.out.cell 0
    have s1 := HX8.out.cell 1
    have s2 := HX8.out.cell 2
    have s3 := HX8.out.cell 3
    have s4 := HX8.out.cell 4
    exact bodyPost_ret (v := .tuple #[.agg #[.int .i64 0, .slice none 0 0, .bool false, .int .i64 (-1), .slice none 0 0], .bool false]) (by simp [results, Tryd.results13, go_sem, s0, s1, s2, s3, s4]) rfl HRT.out
  | some pn =>
    have HV := Lib.hid (value_q hla HZa.out (pn : Nat) true (by rw [hna]; rfl) (by rw [hna]; rfl))
    have hp64 := (numOf_some hna).2
    by_cases hbig : 255 < pn
    · have gb : decide ((255 : Int) < (pn : Int)) = true := by simp; omega
      have gb2 : decide (255 < pn) = true := by simp; omega
      have hfn : fnD a b c d = none := by unfold fnD; rw [hna]; simp only; rw [if_pos hbig]
      have HX8 : Hid (Blk ((w.alloc (.cells #[.int .i64 0, .slice none 0 0, .bool false, .int .i64 (-1), .slice none 0 0] 36)).alloc (.cells #[.int .i64 0, .slice none 0 0, .bool false, .int .i64 (-1), .slice none 0 0] 36)) w.heap.size 36 #[.int .i64 0, .slice none 0 0, .bool false, .int .i64 (-1), .slice none 0 0]) := Lib.hid ((Blk.new w _ _).alloc _)
      have HRT : Hid (BegPost ws w (.returned (.tuple #[.agg #[.int .i64 0, .slice none 0 0, .bool false, .int .i64 (-1), .slice none 0 0], .bool false])) ((w.alloc (.cells #[.int .i64 0, .slice none 0 0, .bool false, .int .i64 (-1), .slice none 0 0] 36)).alloc (.cells #[.int .i64 0, .slice none 0 0, .bool false, .int .i64 (-1), .slice none 0 0] 36))) := Lib.hid ⟨⟨⟨0, [], false, -1, []⟩, none, 0, none, 0⟩, false, rfl, beg_no ⟨⟨0, [], false, -1, []⟩, none, 0, none, 0⟩ HWS.out HG.out hfn, ⟨rfl, rfl, rfl⟩, own_none _ _ _ _, ⟨by simp only; omega, by simp only; omega, by simp only; omega, by simp only; omega, Byt.nil, (fun i hi => by cases hi), by simp, by simp⟩, ((Below.refl _ _).alloc (Nat.le_refl _) _).alloc (by simp) _⟩
      clear hna hfn hla hld hbig
      go_enter Tryd.func13, Tryd.ntmps13
      go_wp2_with (go_at_call 21; refine (HV.out _).mono ?_; rintro e w5 ⟨rfl, rfl⟩)
      have s0 := HX8.out.cell 0
      have s1 := HX8.out.cell 1
      have s2 := HX8.out.cell 2
      have s3 := HX8.out.cell 3
      have s4 := HX8.out.cell 4
      exact bodyPost_ret (v := .tuple #[.agg #[.int .i64 0, .slice none 0 0, .bool false, .int .i64 (-1), .slice none 0 0], .bool false]) (by simp [results, Tryd.results13, go_sem, s0, s1, s2, s3, s4]) rfl HRT.out
    have gb : decide ((255 : Int) < (pn : Int)) = false := by simp; omega
    have gb2 : decide (255 < pn) = false := by simp; omega
    have HNA := Lib.hid hna
    have HFN : Hid (fnD a b c d = match keepD d with
      | none => none
      | some k => some ⟨(pn : Int), lettersD b, decide (c = [49]), k, []⟩) := Lib.hid (by unfold fnD; rw [hna]; simp only; rw [if_neg hbig]; cases keepD d <;> rfl)
    have HX1 : Hid (Blk ((w.alloc (.cells #[.int .i64 0, .slice none 0 0, .bool false, .int .i64 0, .slice none 0 0] 36)).alloc (.cells #[.int .i64 pn, .slice none 0 0, .bool false, .int .i64 (-1), .slice none 0 0] 36)) w.heap.size 36 #[.int .i64 0, .slice none 0 0, .bool false, .int .i64 0, .slice none 0 0]) := Lib.hid ((Blk.new w _ _).alloc _)
    have HY1 : Hid (Blk ((w.alloc (.cells #[.int .i64 0, .slice none 0 0, .bool false, .int .i64 0, .slice none 0 0] 36)).alloc (.cells #[.int .i64 pn, .slice none 0 0, .bool false, .int .i64 (-1), .slice none 0 0] 36)) (w.heap.size + 1) 36 #[.int .i64 pn, .slice none 0 0, .bool false, .int .i64 (-1), .slice none 0 0]) := Lib.hid (blk_second w _ _ _ _)
    have HB1 : Hid (Below w.heap.size w ((w.alloc (.cells #[.int .i64 0, .slice none 0 0, .bool false, .int .i64 0, .slice none 0 0] 36)).alloc (.cells #[.int .i64 pn, .slice none 0 0, .bool false, .int .i64 (-1), .slice none 0 0] 36))) := Lib.hid (((Below.refl _ _).alloc (Nat.le_refl _) _).alloc (by simp) _)
    clear hna hla HX0 HY0 HB0
    go_enter Tryd.func13, Tryd.ntmps13
    go_wp2_with (go_at_call 21; refine (HV.out _).mono ?_; rintro e w5 ⟨rfl, rfl⟩)
    clear gb gb2 ca
    go_loopw [7] (fun i wr => ∃ (k lc : Nat) (lo : Option Addr), k ≤ Zb.size ∧ i = .int .i64 k ∧ Hid (Blk wr w.heap.size 36 #[.int .i64 0, .slice none 0 0, .bool false, .int .i64 0, .slice none 0 0]) ∧ Hid (Blk wr (w.heap.size + 1) 36 #[.int .i64 pn, .slice lo k lc, .bool false, .int .i64 (-1), .slice none 0 0]) ∧ Hid (wr.ownsRow (w.heap.size + 2) 53 1 (.slice lo k lc) k (u8c ((b.take k).map (fun y => if y = 112 then (1 : Int) else 0)))) ∧ Hid (b = [45] → k = 0) ∧ Hid (Below w.heap.size w wr)) (fun i _ => Zb.size - (intOf i).toNat)
    case atStart => exact ⟨0, 0, none, by omega, rfl, HX1, HY1, Lib.hid (own_none _ _ _ _), Lib.hid (fun _ => rfl), HB1⟩
    case round =>
      clear HX1 HY1 HB1 HV
      obtain ⟨k, lc, lo, hk, rfl, HXr, HYr, HO, HDK, HW⟩ := hrel
      have hzr : w.heap.size + 1 < wr.heap.size := HYr.out.lt
      obtain ⟨c1, c2, c3, c4⟩ := HC.out wr HW.out
      have hab2 : ab < wr.heap.size := by omega
      clear c1
      by_cases hex : b = [45] ∨ k = Zb.size
      · have HLS : Hid ((b.take k).map (fun y => if y = 112 then (1 : Int) else 0) = lettersD b) := Lib.hid (by
          unfold lettersD
          by_cases hb : b = [45]
          · rw [if_pos hb, HDK.out hb]; rfl
          · rw [if_neg hb, List.take_of_length_le]
            rcases hex with h | h
            · exact absurd h hb
            · have := HLb.out; omega)
        obtain ⟨LS, HLSd⟩ : ∃ L, Hid (L = lettersD b) := ⟨_, Lib.hid rfl⟩
        rw [HLS.out, ← HLSd.out] at HO
        have HKL : Hid (LS.length = k) := Lib.hid (by have := HO.out.1; rw [length_u8c] at this; omega)
        have HBT : Hid (Byt LS) := Lib.hid (by rw [HLSd.out, ← HLS.out]; exact letters_byt _)
        obtain ⟨fl, hfl⟩ : ∃ fl, (Zc.toList == [49]) = fl := ⟨_, rfl⟩
        have HFL : Hid (fl = decide (c = [49])) := Lib.hid (by rw [← hfl, HZc.out, str_toList, Bool.eq_iff_iff]; simp)
        have HFN2 : Hid (fnD a b c d = match keepD d with
          | none => none
          | some kk => some ⟨(pn : Int), LS, fl, kk, []⟩) := Lib.hid (by rw [HFN.out, HLSd.out, HFL.out])
        have hgd : (decide ((k : Int) < (Zb.size : Int)) = true ∧ decide (k < Zb.size) = true ∧ (Zb.toList != [45]) = false ∧ (Zb.toList == [45]) = true) ∨ (decide ((k : Int) < (Zb.size : Int)) = false ∧ decide (k < Zb.size) = false ∧ True ∧ True) := by
          by_cases hb : b = [45]
          · have hk0 := HDK.out hb
            have hs := HLb.out
            rw [hb] at hs
            simp at hs
            refine .inl ⟨by simp; omega, by simp; omega, ?_, ?_⟩
            · rw [HZb.out, str_toList, hb]; rfl
            · rw [HZb.out, str_toList, hb]; rfl
          · rcases hex with h | h
            · exact absurd h hb
            · exact .inr ⟨by simp; omega, by simp; omega, trivial, trivial⟩
        clear hex HLS
        have HX20 : Hid (Blk (wr.setCell ⟨w.heap.size + 1, 2, none⟩ (.bool fl)) w.heap.size 36 #[.int .i64 0, .slice none 0 0, .bool false, .int .i64 0, .slice none 0 0]) := Lib.hid (HXr.out.far (p := ⟨w.heap.size + 1, 2, none⟩) (by simp) _)
        have HY20 : Hid (Blk (wr.setCell ⟨w.heap.size + 1, 2, none⟩ (.bool fl)) (w.heap.size + 1) 36 #[.int .i64 pn, .slice lo k lc, .bool fl, .int .i64 (-1), .slice none 0 0]) := Lib.hid (HYr.out.set_ 2 _)
        have HB20 : Hid (Below w.heap.size w (wr.setCell ⟨w.heap.size + 1, 2, none⟩ (.bool fl))) := Lib.hid (HW.out.setCell (p := ⟨w.heap.size + 1, 2, none⟩) (by simp) _)
        have HO20 : Hid ((wr.setCell ⟨w.heap.size + 1, 2, none⟩ (.bool fl)).ownsRow (w.heap.size + 2) 53 1 (.slice lo k lc) k (u8c LS)) := Lib.hid (own_put HO.out (by omega) _ _)
        have e2 := HYr.out.cell 2
        have q2 := HYr.out.frozen 2
        have c4' := (HC.out _ HB20.out).2.2.2
        rcases hgd with ⟨g1, g1', g2, g2b⟩ | ⟨g1, g1', g2, g2b⟩
        all_goals
          by_cases hd45 : d = [45]
          · have g4 : (Zd.toList != [45]) = false := by rw [HZd.out, str_toList, hd45]; rfl
            have g4b : (Zd.toList == [45]) = true := by rw [HZd.out, str_toList, hd45]; rfl
            have HFD : Hid (fnD a b c d = some ⟨(pn : Int), LS, fl, -1, []⟩) := Lib.hid (by rw [HFN2.out, keepD, if_pos hd45])
            clear hd45
            have HZ20 : (wr.setCell ⟨w.heap.size + 1, 2, none⟩ (.bool fl)).heap.size = wr.heap.size := by simp
            have HCh : Hid (∀ W1 : World, Below wr.heap.size (wr.setCell ⟨w.heap.size + 1, 2, none⟩ (.bool fl)) W1 → (W1.cell? ⟨w.heap.size + 1, 0, none⟩ = some (.int .i64 pn) ∧ W1.cell? ⟨w.heap.size + 1, 1, none⟩ = some (.slice lo k lc) ∧ W1.cell? ⟨w.heap.size + 1, 2, none⟩ = some (.bool fl) ∧ W1.cell? ⟨w.heap.size + 1, 3, none⟩ = some (.int .i64 (-1)) ∧ W1.cell? ⟨w.heap.size + 1, 4, none⟩ = some (.slice none 0 0)) ∧ ((((((W1.setCell ⟨w.heap.size, 0, none⟩ (.int .i64 pn)).setCell ⟨w.heap.size, 1, none⟩ (.slice lo k lc)).setCell ⟨w.heap.size, 2, none⟩ (.bool fl)).setCell ⟨w.heap.size, 3, none⟩ (.int .i64 (-1))).setCell ⟨w.heap.size, 4, none⟩ (.slice none 0 0)).cell? ⟨w.heap.size + 1, 0, none⟩ = some (.int .i64 pn) ∧ (((((W1.setCell ⟨w.heap.size, 0, none⟩ (.int .i64 pn)).setCell ⟨w.heap.size, 1, none⟩ (.slice lo k lc)).setCell ⟨w.heap.size, 2, none⟩ (.bool fl)).setCell ⟨w.heap.size, 3, none⟩ (.int .i64 (-1))).setCell ⟨w.heap.size, 4, none⟩ (.slice none 0 0)).cell? ⟨w.heap.size + 1, 1, none⟩ = some (.slice lo k lc) ∧ (((((W1.setCell ⟨w.heap.size, 0, none⟩ (.int .i64 pn)).setCell ⟨w.heap.size, 1, none⟩ (.slice lo k lc)).setCell ⟨w.heap.size, 2, none⟩ (.bool fl)).setCell ⟨w.heap.size, 3, none⟩ (.int .i64 (-1))).setCell ⟨w.heap.size, 4, none⟩ (.slice none 0 0)).cell? ⟨w.heap.size + 1, 2, none⟩ = some (.bool fl) ∧ (((((W1.setCell ⟨w.heap.size, 0, none⟩ (.int .i64 pn)).setCell ⟨w.heap.size, 1, none⟩ (.slice lo k lc)).setCell ⟨w.heap.size, 2, none⟩ (.bool fl)).setCell ⟨w.heap.size, 3, none⟩ (.int .i64 (-1))).setCell ⟨w.heap.size, 4, none⟩ (.slice none 0 0)).cell? ⟨w.heap.size + 1, 3, none⟩ = some (.int .i64 (-1)) ∧ (((((W1.setCell ⟨w.heap.size, 0, none⟩ (.int .i64 pn)).setCell ⟨w.heap.size, 1, none⟩ (.slice lo k lc)).setCell ⟨w.heap.size, 2, none⟩ (.bool fl)).setCell ⟨w.heap.size, 3, none⟩ (.int .i64 (-1))).setCell ⟨w.heap.size, 4, none⟩ (.slice none 0 0)).cell? ⟨w.heap.size + 1, 4, none⟩ = some (.slice none 0 0))) := Lib.hid (fun W1 h => by
              have hx := HY20.out.below h (by omega)
              have hp : Blk (((((W1.setCell ⟨w.heap.size, 0, none⟩ (.int .i64 pn)).setCell ⟨w.heap.size, 1, none⟩ (.slice lo k lc)).setCell ⟨w.heap.size, 2, none⟩ (.bool fl)).setCell ⟨w.heap.size, 3, none⟩ (.int .i64 (-1))).setCell ⟨w.heap.size, 4, none⟩ (.slice none 0 0)) (w.heap.size + 1) 36 #[.int .i64 pn, .slice lo k lc, .bool fl, .int .i64 (-1), .slice none 0 0] := ((((hx.far (p := ⟨w.heap.size, 0, none⟩) (by simp) _).far (p := ⟨w.heap.size, 1, none⟩) (by simp) _).far (p := ⟨w.heap.size, 2, none⟩) (by simp) _).far (p := ⟨w.heap.size, 3, none⟩) (by simp) _).far (p := ⟨w.heap.size, 4, none⟩) (by simp) _
              exact ⟨⟨hx.cell 0, hx.cell 1, hx.cell 2, hx.cell 3, hx.cell 4⟩, ⟨hp.cell 0, hp.cell 1, hp.cell 2, hp.cell 3, hp.cell 4⟩⟩)
            obtain ⟨HS, HHS⟩ : ∃ S, Hid (S = str (headW ⟨pn, LS, fl, (-1), []⟩)) := ⟨_, Lib.hid rfl⟩
            have HHD : Hid (∀ W1 : World, Below wr.heap.size (wr.setCell ⟨w.heap.size + 1, 2, none⟩ (.bool fl)) W1 → Calls Tryd.prog 22 #[.agg #[.int .i64 pn, .slice lo k lc, .bool fl, .int .i64 (-1), .slice none 0 0]] W1 fun e W2 => e = .returned (.string HS) ∧ Below W1.heap.size W1 W2) := Lib.hid (fun W1 hb => by
              have hs := hb.size
              rw [HZ20] at hs
              have hr := (Reads.of_own HO20.out).below (hb.mono (by rw [HZ20]; exact Nat.le_refl _))
              rw [← HKL.out] at hr ⊢
              refine (head_any wr.heap.size pn LS fl (-1) lo none lc 0 0 [] W1 (by omega) (hr.more (by rw [HZ20]; exact Nat.le_refl _)) hs (by have := HKL.out; omega) (by omega) (by omega)).mono ?_
              rintro e W2 ⟨he, hb2⟩
              exact ⟨by rw [he, HHS.out], hb2⟩)
            have HJN : Hid (∀ W1 : World, Below wr.heap.size (wr.setCell ⟨w.heap.size + 1, 2, none⟩ (.bool fl)) W1 → Calls Tryd.prog 23 #[.slice (some ⟨ab, ao, none⟩) 5 cA] W1 fun e W2 => e = .returned (.string JS) ∧ W1 = W2) := Lib.hid (fun W1 hb => HJD.out W1 (HB20.out.trans (hb.mono (by omega))))
            obtain ⟨okb, hokb⟩ : ∃ b, (HS.toList == JS.toList) = b := ⟨_, rfl⟩
            have HOKB : Hid (okb = decide (headW ⟨pn, LS, fl, (-1), []⟩ = joinS ws)) := Lib.hid (by rw [← hokb, HHS.out, HJS.out, str_toList, str_toList, Bool.eq_iff_iff]; simp)
            have HEND : Hid (∀ W1 : World, Below wr.heap.size (wr.setCell ⟨w.heap.size + 1, 2, none⟩ (.bool fl)) W1 → BegPost ws w (.returned (.tuple #[.agg #[.int .i64 pn, .slice lo k lc, .bool fl, .int .i64 (-1), .slice none 0 0], .bool okb])) (((((W1.setCell ⟨w.heap.size, 0, none⟩ (.int .i64 pn)).setCell ⟨w.heap.size, 1, none⟩ (.slice lo k lc)).setCell ⟨w.heap.size, 2, none⟩ (.bool fl)).setCell ⟨w.heap.size, 3, none⟩ (.int .i64 (-1))).setCell ⟨w.heap.size, 4, none⟩ (.slice none 0 0)) ∧ Blk (((((W1.setCell ⟨w.heap.size, 0, none⟩ (.int .i64 pn)).setCell ⟨w.heap.size, 1, none⟩ (.slice lo k lc)).setCell ⟨w.heap.size, 2, none⟩ (.bool fl)).setCell ⟨w.heap.size, 3, none⟩ (.int .i64 (-1))).setCell ⟨w.heap.size, 4, none⟩ (.slice none 0 0)) w.heap.size 36 #[.int .i64 pn, .slice lo k lc, .bool fl, .int .i64 (-1), .slice none 0 0]) := Lib.hid (fun W1 hb => by
              have hx := HX20.out.below hb (by omega)
              have ho : W1.ownsRow (w.heap.size + 2) 53 1 (.slice lo k lc) k (u8c LS) := own_kept HO20.out fun i hi => hb.block i (by have := (own_block_le HO20.out hi).2; rw [HZ20] at this; exact this)
              have hbw := HB20.out.trans (hb.mono (by omega))
              refine ⟨beg_mk pn (by omega) LS k lc lo fl (-1) HKL.out (by omega) HBT.out (by omega) (by omega) okb (beg_end HWS.out HG.out HFD.out okb HOKB.out) (own_more (own_put (own_put (own_put (own_put (own_put ho (by omega) _ _) (by omega) _ _) (by omega) _ _) (by omega) _ _) (by omega) _ _) (by omega)) (((((hbw.setCell (p := ⟨w.heap.size, 0, none⟩) (by simp) _).setCell (p := ⟨w.heap.size, 1, none⟩) (by simp) _).setCell (p := ⟨w.heap.size, 2, none⟩) (by simp) _).setCell (p := ⟨w.heap.size, 3, none⟩) (by simp) _).setCell (p := ⟨w.heap.size, 4, none⟩) (by simp) _), ((((hx.set_ 0 _).set_ 1 _).set_ 2 _).set_ 3 _).set_ 4 _⟩)
            have hS0 := (HCh.out (wr.setCell ⟨w.heap.size + 1, 2, none⟩ (.bool fl)) (Below.refl _ _)).1
            have hc0 : Below wr.heap.size (wr.setCell ⟨w.heap.size + 1, 2, none⟩ (.bool fl)) (wr.setCell ⟨w.heap.size + 1, 2, none⟩ (.bool fl)).drew := (Below.refl _ _).drew
            have hcs : wr.heap.size ≤ (wr.setCell ⟨w.heap.size + 1, 2, none⟩ (.bool fl)).drew.heap.size := by have := hc0.size; rw [HZ20] at this; exact this
            go_wp2
            clear HOKB HKL HBT HFN HFN2 HFD HFL HLSd HZ20 HW HO HXr HYr HDK
            go_region_held3 (fun W1 => W1.cell? ⟨w.heap.size + 1, 0, none⟩ = some (.int .i64 pn) ∧ W1.cell? ⟨w.heap.size + 1, 1, none⟩ = some (.slice lo k lc) ∧ W1.cell? ⟨w.heap.size + 1, 2, none⟩ = some (.bool fl) ∧ W1.cell? ⟨w.heap.size + 1, 3, none⟩ = some (.int .i64 (-1)) ∧ W1.cell? ⟨w.heap.size + 1, 4, none⟩ = some (.slice none 0 0))
              (first | go_keep | exact hS0 | exact hS1 | exact hS2)
              (first
                | (go_at_call 22; with_reducible refine (HHD.out _ hc0).mono ?_; rintro e W9 ⟨rfl, hb9⟩; have hc1 := hc0.trans (hb9.mono hcs); have hS1 := (HCh.out _ hc1).1; clear hb9)
                | (go_at_call 23; with_reducible refine (HJN.out _ hc1).mono ?_; rintro e W9 ⟨rfl, rfl⟩; have hx9 := HX20.out.below hc1 (by omega); have hS2 := (HCh.out _ hc1).2; have f0 := hx9.cell 0; have f1 := hx9.cell 1; have f2 := hx9.cell 2; have f3 := hx9.cell 3; have f4 := hx9.cell 4; have r0 := hx9.frozen 0; have r1 := hx9.frozen 1; have r2 := hx9.frozen 2; have r3 := hx9.frozen 3; have r4 := hx9.frozen 4; clear hx9))
            obtain ⟨HRT, hx8⟩ := HEND.out _ hc1
            have HX8 := Lib.hid hx8
            have HRT2 := Lib.hid HRT
            clear hx8 HRT hS0 hS1 hS2 hc0 hc1 hcs f0 f1 f2 f3 f4 r0 r1 r2 r3 r4
            go_wp2
            have s0 := HX8.out.cell 0
            have s1 := HX8.out.cell 1
            have s2 := HX8.out.cell 2
            have s3 := HX8.out.cell 3
            have s4 := HX8.out.cell 4
            exact bodyPost_ret (v := .tuple #[.agg #[.int .i64 pn, .slice lo k lc, .bool fl, .int .i64 (-1), .slice none 0 0], .bool okb]) (by simp [results, Tryd.results13, go_sem, s0, s1, s2, s3, s4]) rfl HRT2.out
          · have g4 : (Zd.toList != [45]) = true := by rw [HZd.out, str_toList]; simpa using hd45
            have g4b : (Zd.toList == [45]) = false := by rw [HZd.out, str_toList]; simpa using hd45
            have hdf := HYr.out.cell 3
            have q3 := HYr.out.frozen 3
            cases hnd : numOf d with
            | none =>
              have HV := Lib.hid (value_q hld HZd.out 0 false (by rw [hnd]; rfl) (by rw [hnd]; rfl))
              have HFD : Hid (fnD a b c d = none) := Lib.hid (by rw [HFN2.out, keepD, if_neg hd45, hnd])
              have f0 := HX20.out.cell 0
              have f1 := HX20.out.cell 1
              have f2 := HX20.out.cell 2
              have f3 := HX20.out.cell 3
              have f4 := HX20.out.cell 4
              have r0 := HX20.out.frozen 0
              have r1 := HX20.out.frozen 1
              have r2 := HX20.out.frozen 2
              have r3 := HX20.out.frozen 3
              have r4 := HX20.out.frozen 4
              have d0 := HY20.out.cell 0
              have d1 := HY20.out.cell 1
              have d2 := HY20.out.cell 2
              have d3 := HY20.out.cell 3
              have d4 := HY20.out.cell 4
              have HX8 : Hid (Blk ((((((wr.setCell ⟨w.heap.size + 1, 2, none⟩ (.bool fl)).setCell ⟨w.heap.size, 0, none⟩ (.int .i64 pn)).setCell ⟨w.heap.size, 1, none⟩ (.slice lo k lc)).setCell ⟨w.heap.size, 2, none⟩ (.bool fl)).setCell ⟨w.heap.size, 3, none⟩ (.int .i64 (-1))).setCell ⟨w.heap.size, 4, none⟩ (.slice none 0 0)) w.heap.size 36 #[.int .i64 pn, .slice lo k lc, .bool fl, .int .i64 (-1), .slice none 0 0]) := Lib.hid (((((HX20.out.set_ 0 _).set_ 1 _).set_ 2 _).set_ 3 _).set_ 4 _)
              have HRT : Hid (BegPost ws w (.returned (.tuple #[.agg #[.int .i64 pn, .slice lo k lc, .bool fl, .int .i64 (-1), .slice none 0 0], .bool false])) ((((((wr.setCell ⟨w.heap.size + 1, 2, none⟩ (.bool fl)).setCell ⟨w.heap.size, 0, none⟩ (.int .i64 pn)).setCell ⟨w.heap.size, 1, none⟩ (.slice lo k lc)).setCell ⟨w.heap.size, 2, none⟩ (.bool fl)).setCell ⟨w.heap.size, 3, none⟩ (.int .i64 (-1))).setCell ⟨w.heap.size, 4, none⟩ (.slice none 0 0))) := Lib.hid (beg_mk pn (by omega) LS k lc lo fl (-1) HKL.out (by omega) HBT.out (by omega) (by omega) false (beg_no ⟨⟨(pn : Int), LS, fl, -1, []⟩, lo, lc, none, 0⟩ HWS.out HG.out HFD.out) (own_more (own_put (own_put (own_put (own_put (own_put (HO20.out) (by omega) _ _) (by omega) _ _) (by omega) _ _) (by omega) _ _) (by omega) _ _) (by omega)) (((((HB20.out.setCell (p := ⟨w.heap.size, 0, none⟩) (by simp) _).setCell (p := ⟨w.heap.size, 1, none⟩) (by simp) _).setCell (p := ⟨w.heap.size, 2, none⟩) (by simp) _).setCell (p := ⟨w.heap.size, 3, none⟩) (by simp) _).setCell (p := ⟨w.heap.size, 4, none⟩) (by simp) _))
              clear hnd hd45
              go_wp2_with (go_at_call 21; refine (HV.out _).mono ?_; rintro e w5 ⟨rfl, rfl⟩)
              have s0 := HX8.out.cell 0
              have s1 := HX8.out.cell 1
              have s2 := HX8.out.cell 2
              have s3 := HX8.out.cell 3
              have s4 := HX8.out.cell 4
              exact bodyPost_ret (v := .tuple #[.agg #[.int .i64 pn, .slice lo k lc, .bool fl, .int .i64 (-1), .slice none 0 0], .bool false]) (by simp [results, Tryd.results13, go_sem, s0, s1, s2, s3, s4]) rfl HRT.out
            | some kv =>
              have HV := Lib.hid (value_q hld HZd.out (kv : Nat) true (by rw [hnd]; rfl) (by rw [hnd]; rfl))
              have hk64 := (numOf_some hnd).2
              by_cases hkb : 254 < kv
              · have gb : decide ((254 : Int) < (kv : Int)) = true := by simp; omega
                have gb2 : decide (254 < kv) = true := by simp; omega
                have HFD : Hid (fnD a b c d = none) := Lib.hid (by rw [HFN2.out, keepD, if_neg hd45, hnd]; simp only; rw [if_pos hkb])
                have f0 := HX20.out.cell 0
                have f1 := HX20.out.cell 1
                have f2 := HX20.out.cell 2
                have f3 := HX20.out.cell 3
                have f4 := HX20.out.cell 4
                have r0 := HX20.out.frozen 0
                have r1 := HX20.out.frozen 1
                have r2 := HX20.out.frozen 2
                have r3 := HX20.out.frozen 3
                have r4 := HX20.out.frozen 4
                have d0 := HY20.out.cell 0
                have d1 := HY20.out.cell 1
                have d2 := HY20.out.cell 2
                have d3 := HY20.out.cell 3
                have d4 := HY20.out.cell 4
                have HX8 : Hid (Blk ((((((wr.setCell ⟨w.heap.size + 1, 2, none⟩ (.bool fl)).setCell ⟨w.heap.size, 0, none⟩ (.int .i64 pn)).setCell ⟨w.heap.size, 1, none⟩ (.slice lo k lc)).setCell ⟨w.heap.size, 2, none⟩ (.bool fl)).setCell ⟨w.heap.size, 3, none⟩ (.int .i64 (-1))).setCell ⟨w.heap.size, 4, none⟩ (.slice none 0 0)) w.heap.size 36 #[.int .i64 pn, .slice lo k lc, .bool fl, .int .i64 (-1), .slice none 0 0]) := Lib.hid (((((HX20.out.set_ 0 _).set_ 1 _).set_ 2 _).set_ 3 _).set_ 4 _)
                have HRT : Hid (BegPost ws w (.returned (.tuple #[.agg #[.int .i64 pn, .slice lo k lc, .bool fl, .int .i64 (-1), .slice none 0 0], .bool false])) ((((((wr.setCell ⟨w.heap.size + 1, 2, none⟩ (.bool fl)).setCell ⟨w.heap.size, 0, none⟩ (.int .i64 pn)).setCell ⟨w.heap.size, 1, none⟩ (.slice lo k lc)).setCell ⟨w.heap.size, 2, none⟩ (.bool fl)).setCell ⟨w.heap.size, 3, none⟩ (.int .i64 (-1))).setCell ⟨w.heap.size, 4, none⟩ (.slice none 0 0))) := Lib.hid (beg_mk pn (by omega) LS k lc lo fl (-1) HKL.out (by omega) HBT.out (by omega) (by omega) false (beg_no ⟨⟨(pn : Int), LS, fl, -1, []⟩, lo, lc, none, 0⟩ HWS.out HG.out HFD.out) (own_more (own_put (own_put (own_put (own_put (own_put (HO20.out) (by omega) _ _) (by omega) _ _) (by omega) _ _) (by omega) _ _) (by omega) _ _) (by omega)) (((((HB20.out.setCell (p := ⟨w.heap.size, 0, none⟩) (by simp) _).setCell (p := ⟨w.heap.size, 1, none⟩) (by simp) _).setCell (p := ⟨w.heap.size, 2, none⟩) (by simp) _).setCell (p := ⟨w.heap.size, 3, none⟩) (by simp) _).setCell (p := ⟨w.heap.size, 4, none⟩) (by simp) _))
                clear hnd hd45 hkb
                go_wp2_with (go_at_call 21; refine (HV.out _).mono ?_; rintro e w5 ⟨rfl, rfl⟩)
                have s0 := HX8.out.cell 0
                have s1 := HX8.out.cell 1
                have s2 := HX8.out.cell 2
                have s3 := HX8.out.cell 3
                have s4 := HX8.out.cell 4
                exact bodyPost_ret (v := .tuple #[.agg #[.int .i64 pn, .slice lo k lc, .bool fl, .int .i64 (-1), .slice none 0 0], .bool false]) (by simp [results, Tryd.results13, go_sem, s0, s1, s2, s3, s4]) rfl HRT.out
              · have gb : decide ((254 : Int) < (kv : Int)) = false := by simp; omega
                have gb2 : decide (254 < kv) = false := by simp; omega
                have HFD : Hid (fnD a b c d = some ⟨(pn : Int), LS, fl, (kv : Int), []⟩) := Lib.hid (by rw [HFN2.out, keepD, if_neg hd45, hnd]; simp only; rw [if_neg hkb])
                have hkv : kv ≤ 254 := by omega
                have HX21 : Hid (Blk ((wr.setCell ⟨w.heap.size + 1, 2, none⟩ (.bool fl)).setCell ⟨w.heap.size + 1, 3, none⟩ (.int .i64 kv)) w.heap.size 36 #[.int .i64 0, .slice none 0 0, .bool false, .int .i64 0, .slice none 0 0]) := Lib.hid (HX20.out.far (p := ⟨w.heap.size + 1, 3, none⟩) (by simp) _)
                have HY21 : Hid (Blk ((wr.setCell ⟨w.heap.size + 1, 2, none⟩ (.bool fl)).setCell ⟨w.heap.size + 1, 3, none⟩ (.int .i64 kv)) (w.heap.size + 1) 36 #[.int .i64 pn, .slice lo k lc, .bool fl, .int .i64 kv, .slice none 0 0]) := Lib.hid (HY20.out.set_ 3 _)
                have HB21 : Hid (Below w.heap.size w ((wr.setCell ⟨w.heap.size + 1, 2, none⟩ (.bool fl)).setCell ⟨w.heap.size + 1, 3, none⟩ (.int .i64 kv))) := Lib.hid (HB20.out.setCell (p := ⟨w.heap.size + 1, 3, none⟩) (by simp) _)
                have HO21 : Hid (((wr.setCell ⟨w.heap.size + 1, 2, none⟩ (.bool fl)).setCell ⟨w.heap.size + 1, 3, none⟩ (.int .i64 kv)).ownsRow (w.heap.size + 2) 53 1 (.slice lo k lc) k (u8c LS)) := Lib.hid (own_put HO20.out (by omega) _ _)
                clear hnd hd45 hkb
                have HZ20 : ((wr.setCell ⟨w.heap.size + 1, 2, none⟩ (.bool fl)).setCell ⟨w.heap.size + 1, 3, none⟩ (.int .i64 kv)).heap.size = wr.heap.size := by simp
                have HCh : Hid (∀ W1 : World, Below wr.heap.size ((wr.setCell ⟨w.heap.size + 1, 2, none⟩ (.bool fl)).setCell ⟨w.heap.size + 1, 3, none⟩ (.int .i64 kv)) W1 → (W1.cell? ⟨w.heap.size + 1, 0, none⟩ = some (.int .i64 pn) ∧ W1.cell? ⟨w.heap.size + 1, 1, none⟩ = some (.slice lo k lc) ∧ W1.cell? ⟨w.heap.size + 1, 2, none⟩ = some (.bool fl) ∧ W1.cell? ⟨w.heap.size + 1, 3, none⟩ = some (.int .i64 kv) ∧ W1.cell? ⟨w.heap.size + 1, 4, none⟩ = some (.slice none 0 0)) ∧ ((((((W1.setCell ⟨w.heap.size, 0, none⟩ (.int .i64 pn)).setCell ⟨w.heap.size, 1, none⟩ (.slice lo k lc)).setCell ⟨w.heap.size, 2, none⟩ (.bool fl)).setCell ⟨w.heap.size, 3, none⟩ (.int .i64 kv)).setCell ⟨w.heap.size, 4, none⟩ (.slice none 0 0)).cell? ⟨w.heap.size + 1, 0, none⟩ = some (.int .i64 pn) ∧ (((((W1.setCell ⟨w.heap.size, 0, none⟩ (.int .i64 pn)).setCell ⟨w.heap.size, 1, none⟩ (.slice lo k lc)).setCell ⟨w.heap.size, 2, none⟩ (.bool fl)).setCell ⟨w.heap.size, 3, none⟩ (.int .i64 kv)).setCell ⟨w.heap.size, 4, none⟩ (.slice none 0 0)).cell? ⟨w.heap.size + 1, 1, none⟩ = some (.slice lo k lc) ∧ (((((W1.setCell ⟨w.heap.size, 0, none⟩ (.int .i64 pn)).setCell ⟨w.heap.size, 1, none⟩ (.slice lo k lc)).setCell ⟨w.heap.size, 2, none⟩ (.bool fl)).setCell ⟨w.heap.size, 3, none⟩ (.int .i64 kv)).setCell ⟨w.heap.size, 4, none⟩ (.slice none 0 0)).cell? ⟨w.heap.size + 1, 2, none⟩ = some (.bool fl) ∧ (((((W1.setCell ⟨w.heap.size, 0, none⟩ (.int .i64 pn)).setCell ⟨w.heap.size, 1, none⟩ (.slice lo k lc)).setCell ⟨w.heap.size, 2, none⟩ (.bool fl)).setCell ⟨w.heap.size, 3, none⟩ (.int .i64 kv)).setCell ⟨w.heap.size, 4, none⟩ (.slice none 0 0)).cell? ⟨w.heap.size + 1, 3, none⟩ = some (.int .i64 kv) ∧ (((((W1.setCell ⟨w.heap.size, 0, none⟩ (.int .i64 pn)).setCell ⟨w.heap.size, 1, none⟩ (.slice lo k lc)).setCell ⟨w.heap.size, 2, none⟩ (.bool fl)).setCell ⟨w.heap.size, 3, none⟩ (.int .i64 kv)).setCell ⟨w.heap.size, 4, none⟩ (.slice none 0 0)).cell? ⟨w.heap.size + 1, 4, none⟩ = some (.slice none 0 0))) := Lib.hid (fun W1 h => by
                  have hx := HY21.out.below h (by omega)
                  have hp : Blk (((((W1.setCell ⟨w.heap.size, 0, none⟩ (.int .i64 pn)).setCell ⟨w.heap.size, 1, none⟩ (.slice lo k lc)).setCell ⟨w.heap.size, 2, none⟩ (.bool fl)).setCell ⟨w.heap.size, 3, none⟩ (.int .i64 kv)).setCell ⟨w.heap.size, 4, none⟩ (.slice none 0 0)) (w.heap.size + 1) 36 #[.int .i64 pn, .slice lo k lc, .bool fl, .int .i64 kv, .slice none 0 0] := ((((hx.far (p := ⟨w.heap.size, 0, none⟩) (by simp) _).far (p := ⟨w.heap.size, 1, none⟩) (by simp) _).far (p := ⟨w.heap.size, 2, none⟩) (by simp) _).far (p := ⟨w.heap.size, 3, none⟩) (by simp) _).far (p := ⟨w.heap.size, 4, none⟩) (by simp) _
                  exact ⟨⟨hx.cell 0, hx.cell 1, hx.cell 2, hx.cell 3, hx.cell 4⟩, ⟨hp.cell 0, hp.cell 1, hp.cell 2, hp.cell 3, hp.cell 4⟩⟩)
                obtain ⟨HS, HHS⟩ : ∃ S, Hid (S = str (headW ⟨pn, LS, fl, kv, []⟩)) := ⟨_, Lib.hid rfl⟩
                have HHD : Hid (∀ W1 : World, Below wr.heap.size ((wr.setCell ⟨w.heap.size + 1, 2, none⟩ (.bool fl)).setCell ⟨w.heap.size + 1, 3, none⟩ (.int .i64 kv)) W1 → Calls Tryd.prog 22 #[.agg #[.int .i64 pn, .slice lo k lc, .bool fl, .int .i64 kv, .slice none 0 0]] W1 fun e W2 => e = .returned (.string HS) ∧ Below W1.heap.size W1 W2) := Lib.hid (fun W1 hb => by
                  have hs := hb.size
                  rw [HZ20] at hs
                  have hr := (Reads.of_own HO21.out).below (hb.mono (by rw [HZ20]; exact Nat.le_refl _))
                  rw [← HKL.out] at hr ⊢
                  refine (head_any wr.heap.size pn LS fl kv lo none lc 0 0 [] W1 (by omega) (hr.more (by rw [HZ20]; exact Nat.le_refl _)) hs (by have := HKL.out; omega) (by omega) (by omega)).mono ?_
                  rintro e W2 ⟨he, hb2⟩
                  exact ⟨by rw [he, HHS.out], hb2⟩)
                have HJN : Hid (∀ W1 : World, Below wr.heap.size ((wr.setCell ⟨w.heap.size + 1, 2, none⟩ (.bool fl)).setCell ⟨w.heap.size + 1, 3, none⟩ (.int .i64 kv)) W1 → Calls Tryd.prog 23 #[.slice (some ⟨ab, ao, none⟩) 5 cA] W1 fun e W2 => e = .returned (.string JS) ∧ W1 = W2) := Lib.hid (fun W1 hb => HJD.out W1 (HB21.out.trans (hb.mono (by omega))))
                obtain ⟨okb, hokb⟩ : ∃ b, (HS.toList == JS.toList) = b := ⟨_, rfl⟩
                have HOKB : Hid (okb = decide (headW ⟨pn, LS, fl, kv, []⟩ = joinS ws)) := Lib.hid (by rw [← hokb, HHS.out, HJS.out, str_toList, str_toList, Bool.eq_iff_iff]; simp)
                have HEND : Hid (∀ W1 : World, Below wr.heap.size ((wr.setCell ⟨w.heap.size + 1, 2, none⟩ (.bool fl)).setCell ⟨w.heap.size + 1, 3, none⟩ (.int .i64 kv)) W1 → BegPost ws w (.returned (.tuple #[.agg #[.int .i64 pn, .slice lo k lc, .bool fl, .int .i64 kv, .slice none 0 0], .bool okb])) (((((W1.setCell ⟨w.heap.size, 0, none⟩ (.int .i64 pn)).setCell ⟨w.heap.size, 1, none⟩ (.slice lo k lc)).setCell ⟨w.heap.size, 2, none⟩ (.bool fl)).setCell ⟨w.heap.size, 3, none⟩ (.int .i64 kv)).setCell ⟨w.heap.size, 4, none⟩ (.slice none 0 0)) ∧ Blk (((((W1.setCell ⟨w.heap.size, 0, none⟩ (.int .i64 pn)).setCell ⟨w.heap.size, 1, none⟩ (.slice lo k lc)).setCell ⟨w.heap.size, 2, none⟩ (.bool fl)).setCell ⟨w.heap.size, 3, none⟩ (.int .i64 kv)).setCell ⟨w.heap.size, 4, none⟩ (.slice none 0 0)) w.heap.size 36 #[.int .i64 pn, .slice lo k lc, .bool fl, .int .i64 kv, .slice none 0 0]) := Lib.hid (fun W1 hb => by
                  have hx := HX21.out.below hb (by omega)
                  have ho : W1.ownsRow (w.heap.size + 2) 53 1 (.slice lo k lc) k (u8c LS) := own_kept HO21.out fun i hi => hb.block i (by have := (own_block_le HO21.out hi).2; rw [HZ20] at this; exact this)
                  have hbw := HB21.out.trans (hb.mono (by omega))
                  refine ⟨beg_mk pn (by omega) LS k lc lo fl kv HKL.out (by omega) HBT.out (by omega) (by omega) okb (beg_end HWS.out HG.out HFD.out okb HOKB.out) (own_more (own_put (own_put (own_put (own_put (own_put ho (by omega) _ _) (by omega) _ _) (by omega) _ _) (by omega) _ _) (by omega) _ _) (by omega)) (((((hbw.setCell (p := ⟨w.heap.size, 0, none⟩) (by simp) _).setCell (p := ⟨w.heap.size, 1, none⟩) (by simp) _).setCell (p := ⟨w.heap.size, 2, none⟩) (by simp) _).setCell (p := ⟨w.heap.size, 3, none⟩) (by simp) _).setCell (p := ⟨w.heap.size, 4, none⟩) (by simp) _), ((((hx.set_ 0 _).set_ 1 _).set_ 2 _).set_ 3 _).set_ 4 _⟩)
                have hS0 := (HCh.out ((wr.setCell ⟨w.heap.size + 1, 2, none⟩ (.bool fl)).setCell ⟨w.heap.size + 1, 3, none⟩ (.int .i64 kv)) (Below.refl _ _)).1
                have hc0 : Below wr.heap.size ((wr.setCell ⟨w.heap.size + 1, 2, none⟩ (.bool fl)).setCell ⟨w.heap.size + 1, 3, none⟩ (.int .i64 kv)) ((wr.setCell ⟨w.heap.size + 1, 2, none⟩ (.bool fl)).setCell ⟨w.heap.size + 1, 3, none⟩ (.int .i64 kv)).drew := (Below.refl _ _).drew
                have hcs : wr.heap.size ≤ ((wr.setCell ⟨w.heap.size + 1, 2, none⟩ (.bool fl)).setCell ⟨w.heap.size + 1, 3, none⟩ (.int .i64 kv)).drew.heap.size := by have := hc0.size; rw [HZ20] at this; exact this
                go_wp2_with (go_at_call 21; refine (HV.out _).mono ?_; rintro e w5 ⟨rfl, rfl⟩)
                clear HOKB HKL HBT HFN HFN2 HFD HFL HLSd HZ20 HW HO HXr HYr HDK
                go_region_held3 (fun W1 => W1.cell? ⟨w.heap.size + 1, 0, none⟩ = some (.int .i64 pn) ∧ W1.cell? ⟨w.heap.size + 1, 1, none⟩ = some (.slice lo k lc) ∧ W1.cell? ⟨w.heap.size + 1, 2, none⟩ = some (.bool fl) ∧ W1.cell? ⟨w.heap.size + 1, 3, none⟩ = some (.int .i64 kv) ∧ W1.cell? ⟨w.heap.size + 1, 4, none⟩ = some (.slice none 0 0))
                  (first | go_keep | exact hS0 | exact hS1 | exact hS2)
                  (first
                    | (go_at_call 22; with_reducible refine (HHD.out _ hc0).mono ?_; rintro e W9 ⟨rfl, hb9⟩; have hc1 := hc0.trans (hb9.mono hcs); have hS1 := (HCh.out _ hc1).1; clear hb9)
                    | (go_at_call 23; with_reducible refine (HJN.out _ hc1).mono ?_; rintro e W9 ⟨rfl, rfl⟩; have hx9 := HX21.out.below hc1 (by omega); have hS2 := (HCh.out _ hc1).2; have f0 := hx9.cell 0; have f1 := hx9.cell 1; have f2 := hx9.cell 2; have f3 := hx9.cell 3; have f4 := hx9.cell 4; have r0 := hx9.frozen 0; have r1 := hx9.frozen 1; have r2 := hx9.frozen 2; have r3 := hx9.frozen 3; have r4 := hx9.frozen 4; clear hx9))
                obtain ⟨HRT, hx8⟩ := HEND.out _ hc1
                have HX8 := Lib.hid hx8
                have HRT2 := Lib.hid HRT
                clear hx8 HRT hS0 hS1 hS2 hc0 hc1 hcs f0 f1 f2 f3 f4 r0 r1 r2 r3 r4
                go_wp2
                have s0 := HX8.out.cell 0
                have s1 := HX8.out.cell 1
                have s2 := HX8.out.cell 2
                have s3 := HX8.out.cell 3
                have s4 := HX8.out.cell 4
                exact bodyPost_ret (v := .tuple #[.agg #[.int .i64 pn, .slice lo k lc, .bool fl, .int .i64 kv, .slice none 0 0], .bool okb]) (by simp [results, Tryd.results13, go_sem, s0, s1, s2, s3, s4]) rfl HRT2.out
      · have hkl : k < Zb.size := by
          rcases Nat.lt_or_ge k Zb.size with h | h
          · exact h
          · exact absurd (.inr (by omega)) hex
        have hnd : ¬ b = [45] := fun h => hex (.inl h)
        have g1 : decide ((k : Int) < (Zb.size : Int)) = true := by simp; omega
        have g1' : decide (k < Zb.size) = true := by simp; omega
        have g2 : (Zb.toList != [45]) = true := by rw [HZb.out, str_toList]; simpa using hnd
        have g2b : (Zb.toList == [45]) = false := by rw [HZb.out, str_toList]; simpa using hnd
        have HBK := HBy.out k hkl
        have HSN := Lib.hid (lettersD_at HBK)
        have HD2 : Hid (b = [45] → k + 1 = 0) := Lib.hid (fun h => absurd h hnd)
        clear hex hnd HBK
        have y1 := HYr.out.cell 1
        have fr1 := HYr.out.frozen 1
        by_cases h112 : Zb[k] = 112
        · have g3 : ((Zb[k].toNat : Int) == 112) = true := by rw [h112]; rfl
          have HSM : Hid (((b.take (k + 1)).map (fun y => if y = 112 then (1 : Int) else 0)) = ((b.take k).map (fun y => if y = 112 then (1 : Int) else 0)) ++ [1]) := Lib.hid (by rw [HSN.out, if_pos h112])
          clear h112
          have HOa := Lib.hid (own_alloc HO.out (.cells #[.int .u8 1] 53))
          have HRa := Lib.hid (one_reads wr 53 [.int .u8 1] 1 rfl)
          have hya : ∀ o : Obj, (wr.alloc o).cell? ⟨w.heap.size + 1, 1, none⟩ = some (.slice lo k lc) := fun o => (HYr.out.alloc o).cell 1
          obtain ⟨LL, HLL⟩ : ∃ L, Hid (L = (b.take k).map (fun y => if y = 112 then (1 : Int) else 0)) := ⟨_, Lib.hid rfl⟩
          rw [← HLL.out] at HOa
          go_wp2_with (at_builtin; refine app_kind rfl _ _ rfl (w.heap.size + 2) (.slice lo k lc) k (u8c LL) rfl HOa.out (wr.heap.size + 1) (some ⟨wr.heap.size, 0, none⟩) 1 1 [.int .u8 1] rfl HRa.out (by intro u hu; simp at hu; subst hu; rfl) (by omega) (by simp; omega) ?_; intro v' w6 hown6 hgr6 _; refine Hid.out ?_)
          obtain ⟨A6, c6, rfl⟩ := own_slice hown6
          have hx6 : Blk w6 w.heap.size 36 #[.int .i64 0, .slice none 0 0, .bool false, .int .i64 0, .slice none 0 0] := blk_grown (HXr.out.alloc _) HOa.out hgr6 (by decide)
          have hy6 : Blk w6 (w.heap.size + 1) 36 #[.int .i64 pn, .slice lo k lc, .bool false, .int .i64 (-1), .slice none 0 0] := blk_grown (HYr.out.alloc _) HOa.out hgr6 (by decide)
          have HB6 : Hid (Below w.heap.size w (w6.setCell ⟨w.heap.size + 1, 1, none⟩ (.slice A6 (k + 1) c6))) := Lib.hid (((HW.out.alloc (by omega) _).grown hgr6 (by simp; omega) (fun i hi => by have := (own_block_le HOa.out hi).1; omega)).setCell (p := ⟨w.heap.size + 1, 1, none⟩) (by simp) _)
          have HX6 : Hid (Blk (w6.setCell ⟨w.heap.size + 1, 1, none⟩ (.slice A6 (k + 1) c6)) w.heap.size 36 #[.int .i64 0, .slice none 0 0, .bool false, .int .i64 0, .slice none 0 0]) := Lib.hid (hx6.far (p := ⟨w.heap.size + 1, 1, none⟩) (by simp) _)
          have HY6 : Hid (Blk (w6.setCell ⟨w.heap.size + 1, 1, none⟩ (.slice A6 (k + 1) c6)) (w.heap.size + 1) 36 #[.int .i64 pn, .slice A6 (k + 1) c6, .bool false, .int .i64 (-1), .slice none 0 0]) := Lib.hid (hy6.set_ 1 _)
          have HO6 : Hid ((w6.setCell ⟨w.heap.size + 1, 1, none⟩ (.slice A6 (k + 1) c6)).ownsRow (w.heap.size + 2) 53 1 (.slice A6 (k + 1) c6) (k + 1) (u8c ((b.take (k + 1)).map (fun y => if y = 112 then (1 : Int) else 0)))) := Lib.hid (by
            rw [HSM.out, u8c_append, ← HLL.out]
            exact own_put hown6 (by omega) _ _)
          have z1 := hy6.cell 1
          have zf1 := hy6.frozen 1
          clear hown6 hgr6 hx6 hy6 y1 fr1 hya
          refine Lib.hid ?_
          go_wp2
          go_roundw
          case rel => exact ⟨k + 1, c6, A6, by omega, by go_num, HX6, HY6, HO6, HD2, HB6⟩
          case measure => simp [intOf]; omega
        · have g3 : ((Zb[k].toNat : Int) == 112) = false := by simp only [beq_eq_false_iff_ne, ne_eq]; intro e; exact h112 (UInt8.toNat_inj.1 (by simpa using (by omega : Zb[k].toNat = 112)))
          have HSM : Hid (((b.take (k + 1)).map (fun y => if y = 112 then (1 : Int) else 0)) = ((b.take k).map (fun y => if y = 112 then (1 : Int) else 0)) ++ [0]) := Lib.hid (by rw [HSN.out, if_neg h112])
          clear h112
          have HOa := Lib.hid (own_alloc HO.out (.cells #[.int .u8 0] 53))
          have HRa := Lib.hid (one_reads wr 53 [.int .u8 0] 1 rfl)
          have hya : ∀ o : Obj, (wr.alloc o).cell? ⟨w.heap.size + 1, 1, none⟩ = some (.slice lo k lc) := fun o => (HYr.out.alloc o).cell 1
          obtain ⟨LL, HLL⟩ : ∃ L, Hid (L = (b.take k).map (fun y => if y = 112 then (1 : Int) else 0)) := ⟨_, Lib.hid rfl⟩
          rw [← HLL.out] at HOa
          go_wp2_with (at_builtin; refine app_kind rfl _ _ rfl (w.heap.size + 2) (.slice lo k lc) k (u8c LL) rfl HOa.out (wr.heap.size + 1) (some ⟨wr.heap.size, 0, none⟩) 1 1 [.int .u8 0] rfl HRa.out (by intro u hu; simp at hu; subst hu; rfl) (by omega) (by simp; omega) ?_; intro v' w6 hown6 hgr6 _; refine Hid.out ?_)
          obtain ⟨A6, c6, rfl⟩ := own_slice hown6
          have hx6 : Blk w6 w.heap.size 36 #[.int .i64 0, .slice none 0 0, .bool false, .int .i64 0, .slice none 0 0] := blk_grown (HXr.out.alloc _) HOa.out hgr6 (by decide)
          have hy6 : Blk w6 (w.heap.size + 1) 36 #[.int .i64 pn, .slice lo k lc, .bool false, .int .i64 (-1), .slice none 0 0] := blk_grown (HYr.out.alloc _) HOa.out hgr6 (by decide)
          have HB6 : Hid (Below w.heap.size w (w6.setCell ⟨w.heap.size + 1, 1, none⟩ (.slice A6 (k + 1) c6))) := Lib.hid (((HW.out.alloc (by omega) _).grown hgr6 (by simp; omega) (fun i hi => by have := (own_block_le HOa.out hi).1; omega)).setCell (p := ⟨w.heap.size + 1, 1, none⟩) (by simp) _)
          have HX6 : Hid (Blk (w6.setCell ⟨w.heap.size + 1, 1, none⟩ (.slice A6 (k + 1) c6)) w.heap.size 36 #[.int .i64 0, .slice none 0 0, .bool false, .int .i64 0, .slice none 0 0]) := Lib.hid (hx6.far (p := ⟨w.heap.size + 1, 1, none⟩) (by simp) _)
          have HY6 : Hid (Blk (w6.setCell ⟨w.heap.size + 1, 1, none⟩ (.slice A6 (k + 1) c6)) (w.heap.size + 1) 36 #[.int .i64 pn, .slice A6 (k + 1) c6, .bool false, .int .i64 (-1), .slice none 0 0]) := Lib.hid (hy6.set_ 1 _)
          have HO6 : Hid ((w6.setCell ⟨w.heap.size + 1, 1, none⟩ (.slice A6 (k + 1) c6)).ownsRow (w.heap.size + 2) 53 1 (.slice A6 (k + 1) c6) (k + 1) (u8c ((b.take (k + 1)).map (fun y => if y = 112 then (1 : Int) else 0)))) := Lib.hid (by
            rw [HSM.out, u8c_append, ← HLL.out]
            exact own_put hown6 (by omega) _ _)
          have z1 := hy6.cell 1
          have zf1 := hy6.frozen 1
          clear hown6 hgr6 hx6 hy6 y1 fr1 hya
          refine Lib.hid ?_
          go_wp2
          go_roundw
          case rel => exact ⟨k + 1, c6, A6, by omega, by go_num, HX6, HY6, HO6, HD2, HB6⟩
          case measure => simp [intOf]; omega
end Go.Proofs.YtbpobbadmbafaaaDoor
