/-
  The document's answer for Parse: Read.
-/
import Derived.Test.YtjmfbmnhkoeceaaDoorRefs
import Derived.Test.YtjmfbmnhkoeceaaDoorRead
namespace Go.Proofs.YtjmfbmnhkoeceaaDoor
set_option linter.unusedVariables false
open Go.ChangeShapes Go.WideShapes Go.ChangeAt Go.RowKit

theorem split_use (t : List UInt8) (ws : List (List UInt8)) (m : Nat) (hws : wordsOf t = ws) (hm : ws.length = m) (ht : t.length ≤ 1073741824) (w : World) :
    Calls Tryd.prog 35 #[.string (str t), .int .u8 32] w fun e w' => ∃ (b off c : Nat), e = .returned (.slice (some ⟨b, off, none⟩) m c) ∧ b < w'.heap.size ∧
      Hid (∀ (j : Nat) (wd : List UInt8), ws[j]? = some wd → w'.cell? ⟨b, off + j, none⟩ = some (.string (str wd))) ∧ Below w.heap.size w w' := by
  refine (split_any t ht w).mono ?_
  rintro e w' ⟨v, rfl, ho, hb⟩
  rw [hws, hm] at ho
  obtain ⟨A, c, rfl⟩ := own_slice ho
  have hpos : 0 < m := by
    have h := wordsOf_ne t
    rw [hws] at h
    have := List.length_pos_iff.2 h
    omega
  obtain ⟨b, off, rfl, hbb, hc⟩ := (Reads.of_own ho).lit hpos (by omega)
  exact ⟨b, off, c, rfl, hbb, fun j wd h => hc j _ (strs_at h), hb⟩

def RefIs (t : List UInt8) (l : List Ev) (x : Ev) (ok : Bool) : Prop := (readL t = some (l, x) ∧ ok = true) ∨ (readL t = none ∧ l = [] ∧ x = (0, 0) ∧ ok = false)
def RefPost (t : List UInt8) (w : World) (e : Ending) (w' : World) : Prop :=
  ∃ (A : Option Addr) (n c : Nat) (l : List Ev) (x : Ev) (ok : Bool), e = .returned (.tuple #[.slice A n c, .agg #[.int .i64 x.1, .int .u64 x.2], .bool ok]) ∧ l.length = n ∧ Reads w' w'.heap.size 2 A n (evc l) ∧ RefIs t l x ok ∧ Below w.heap.size w w'
theorem ref_fail {t : List UInt8} {w w3 : World} (h : readL t = none) (hb : Below w.heap.size w w3) : RefPost t w (.returned (.tuple #[.slice none 0 0, .agg #[.int .i64 0, .int .u64 0], .bool false])) w3 :=
  ⟨none, 0, 0, [], (0, 0), false, rfl, rfl, Reads.none_, .inr ⟨h, rfl, rfl, rfl⟩, hb⟩
theorem ref_good {t : List UInt8} {w w3 : World} {n c : Nat} {A : Option Addr} {l : List Ev} {xk xv : Int} (hl : l.length = n) (ho : Reads w3 w3.heap.size 2 A n (evc l)) (h : readL t = some (l, (xk, xv))) (hb : Below w.heap.size w w3) :
    RefPost t w (.returned (.tuple #[.slice A n c, .agg #[.int .i64 xk, .int .u64 xv], .bool true])) w3 :=
  ⟨A, n, c, l, (xk, xv), true, rfl, hl, ho, .inl ⟨h, rfl⟩, hb⟩
/-- the result's two cells are written, besides all that is read -/
theorem reads_res {wr w3 : World} {b B n : Nat} {A : Option Addr} {c : Nat} {t : TypeId} {xs : List Value} {u1 u2 : Value} (h : wr.ownsRow B t 2 (.slice A n c) n xs) (hB : b < B) (hb : Below wr.heap.size wr w3) :
    Reads ((w3.setCell ⟨b, 0, none⟩ u1).setCell ⟨b, 1, none⟩ u2) ((w3.setCell ⟨b, 0, none⟩ u1).setCell ⟨b, 1, none⟩ u2).heap.size 2 A n xs := by
  have h2 : ((w3.setCell ⟨b, 0, none⟩ u1).setCell ⟨b, 1, none⟩ u2).ownsRow B t 2 (.slice A n c) n xs := own_kept h fun i hi => by
    obtain ⟨g1, g2⟩ := own_block_le h hi
    rw [Below.heap_setCell _ _ _ _ (by show i ≠ b; omega), Below.heap_setCell _ _ _ _ (by show i ≠ b; omega), hb.block i g2]
  exact Reads.of_own h2
theorem below_res {w w3 : World} {b : Nat} {u1 u2 : Value} (hb : Below b w w3) : Below b w ((w3.setCell ⟨b, 0, none⟩ u1).setCell ⟨b, 1, none⟩ u2) :=
  (hb.setCell (p := ⟨b, 0, none⟩) (Nat.le_refl _) _).setCell (p := ⟨b, 1, none⟩) (Nat.le_refl _) _

set_option maxRecDepth 100000 in
set_option maxHeartbeats 16000000 in
theorem ref_any (t : List UInt8) (ht : t.length ≤ 1073741824) (w : World) : Calls Tryd.prog 22 #[.string (str t)] w (RefPost t w) := by
  obtain ⟨i1, hi1, hy0, hy1, hy2⟩ := info_parts Tryd.info31
  obtain ⟨ws, hws⟩ : ∃ ws, wordsOf t = ws := ⟨_, rfl⟩
  obtain ⟨m, hm⟩ : ∃ m, ws.length = m := ⟨_, rfl⟩
  have hpos : 0 < m := by
    have h := wordsOf_ne t
    rw [hws] at h
    have := List.length_pos_iff.2 h
    omega
  have hmx : m ≤ 1073741825 := by
    have := wordsOf_len t
    rw [hws] at this
    omega
  have HLW : Hid (∀ (k : Nat) (wd : List UInt8), ws[k]? = some wd → wd.length ≤ 1073741824) := fun k wd h => by
    have := wordsOf_mem t wd (by rw [hws]; exact List.mem_of_getElem? h)
    omega
  have HSp := Lib.hid (split_use t ws m hws hm ht)
  have HRL : Hid (readL t = readW ws) := by show _ = _; rw [← hws]; rfl
  have HM := Lib.hid hm
  have HA : Hid (Below w.heap.size w (w.alloc (.cells #[.int .i64 0, .int .u64 0] 38))) := (Below.refl _ _).alloc (Nat.le_refl _) _
  obtain ⟨X, HX⟩ : ∃ X, Hid (X = str t) := ⟨_, rfl⟩
  rw [← HX.out] at HSp ⊢
  clear hm hws
  go_enter Tryd.func22, Tryd.ntmps22
  go_wp2_with (go_at_call 35; refine (HSp.out _).mono ?_; rintro e w2 ⟨b, off, cw, rfl, hbw, hcw, hb2⟩; refine Hid.out ?_)
  have hs2 := hb2.size
  simp only [World.size_alloc] at hs2
  have HW2 : Hid (Below (w.heap.size + 1) (w.alloc (.cells #[.int .i64 0, .int .u64 0] 38)) w2) := by have h := hb2; simp only [World.size_alloc] at h; exact h
  have HCW : Hid (∀ wx, Below w2.heap.size w2 wx → ∀ (j : Nat) (wd : List UInt8), ws[j]? = some wd → wx.cell? ⟨b, off + j, none⟩ = some (.string (str wd))) := fun wx hb j wd h => (hb.cell (p := ⟨b, off + j, none⟩) hbw).trans (hcw.out j wd h)
  clear hcw hb2
  refine Lib.hid ?_
  go_wp2
  go_loopw [6, 7] (fun o i wr => ∃ (A : Option Addr) (c : Nat) (acc : List Ev) (k : Nat), o = .slice A k c ∧ k + 1 ≤ m ∧ i = .int .i64 k ∧ Hid (acc.length = k) ∧ Hid (readW ws = glue acc (readW (ws.drop k))) ∧ Hid (wr.ownsRow w2.heap.size 31 2 (.slice A k c) k (evc acc)) ∧ Hid (Below w2.heap.size w2 wr)) (fun _ i _ => m - (intOf i).toNat)
  case atStart => exact ⟨none, 0, [], 0, rfl, by omega, rfl, rfl, by show _ = _; rw [glue_nil]; rfl, own_none _ _, Below.refl _ _⟩
  case round =>
    obtain ⟨A, c, acc, k, rfl, hk, rfl, HAL, HG, HO, HB⟩ := hrel
    obtain ⟨wo, rfl⟩ : ∃ wo, wo = wr := ⟨_, rfl⟩
    have hsz := HB.out.size
    have hkl : k < ws.length := by have := HM.out; omega
    obtain ⟨wd, hwd⟩ : ∃ wd, ws[k]? = some wd := ⟨ws[k], List.getElem?_eq_getElem hkl⟩
    clear hkl
    have HWL := Lib.hid (HLW.out k wd hwd)
    by_cases hlt : (k : Int) < (m : Int) - 1
    · have HNo : Hid (evOf wd = none → readL t = none) := fun h => by rw [HRL.out, HG.out, read_no acc hwd (by have := HM.out; omega) h]
      have HYes : Hid (∀ x, evOf wd = some x → readW ws = glue (acc ++ [x]) (readW (ws.drop (k + 1)))) := fun x h => by rw [HG.out, read_yes acc hwd (by have := HM.out; omega) h]
      have HWD := Lib.hid hwd
      clear hwd
      go_wp2
      go_loopw [36] (fun jv wq => ∃ (j : Nat) (xk xv : Int), j ≤ 2 ∧ jv = .int .i64 j ∧ Hid (vAt wd j = (xk, xv)) ∧ Hid (Below wo.heap.size wo wq) ∧ Hid (wo.heap.size + 2 ≤ wq.heap.size) ∧ Hid (Blk wq wo.heap.size 31 #[.int .i64 xk, .int .u64 xv]) ∧ Hid (Blk wq (wo.heap.size + 1) 9 #[.string (str (vP 0)), .string (str (vP 1))])) (fun jv _ => 2 - (intOf jv).toNat)
      case atStart => exact ⟨0, 0, 0, by omega, rfl, rfl, ((Below.refl _ _).alloc (Nat.le_refl _) _).alloc (by simp) _, (by show _ ≤ _; simp), (Blk.new wo 31 #[.int .i64 0, .int .u64 0]).alloc _, (by
        have h := Blk.new (wo.alloc (.cells #[.int .i64 0, .int .u64 0] 31)) 9 #[.string (str (vP 0)), .string (str (vP 1))]
        simp only [World.size_alloc] at h
        exact h)⟩
      case round =>
        obtain ⟨j, xk, xv, hj, rfl, HV, HQ, HS, HX, HT⟩ := hrel
        have hqs := HS.out
        have c0 : wr.cell? ⟨wo.heap.size, 0, none⟩ = some (.int .i64 xk) := HX.out.cell 0
        have c1 : wr.cell? ⟨wo.heap.size, 1, none⟩ = some (.int .u64 xv) := HX.out.cell 1
        have f0 := HX.out.frozen 0
        have f1 := HX.out.frozen 1
        by_cases hjl : j < 2
        · obtain ⟨P, HP⟩ : ∃ P, Hid (P = str (vP j)) := ⟨_, rfl⟩
          obtain ⟨W, HWs⟩ : ∃ W, Hid (W = str wd) := ⟨_, rfl⟩
          have HBq := Lib.hid (HB.out.trans (HQ.out.mono hsz))
          have q1 : wr.cell? ⟨b, off + k, none⟩ = some (.string W) := by rw [HWs.out]; exact HCW.out wr HBq.out k wd HWD.out
          have q2 : wr.cell? ⟨wo.heap.size + 1, j, none⟩ = some (.string P) := by
            rw [HT.out.cell j, HP.out]
            rcases (by omega : j = 0 ∨ j = 1) with rfl | rfl <;> rfl
          have hpl : Hid ((vP j).length ≤ 100) := by show _ ≤ _; unfold vP; split <;> decide
          cases hp : (vP j).isPrefixOf wd with
          | false =>
            have HVn : Hid (vAt wd (j + 1) = (xk, xv)) := by
              show _ = _
              rw [vAt_no (numB_not hp), HV.out]
            have HC := Lib.hid (behind_not (vP j) wd hp HWL.out hpl.out)
            rw [← HWs.out, ← HP.out] at HC
            clear hp
            go_wp2_with (go_at_call 36; refine (HC.out _).mono ?_; rintro e w3 ⟨rfl, rfl⟩; refine Hid.out ?_)
            refine Lib.hid ?_
            go_wp2
            go_roundw
            case rel => exact ⟨j + 1, xk, xv, by omega, by go_num, HVn, HQ, HS, HX, HT⟩
            case measure => simp [intOf]; omega
          | true =>
            have HC := Lib.hid (behind_yes (vP j) wd hp HWL.out hpl.out)
            obtain ⟨R, HR⟩ : ∃ R, Hid (R = str (wd.drop (vP j).length)) := ⟨_, rfl⟩
            rw [← HWs.out, ← HP.out, ← HR.out] at HC
            have hrl : (wd.drop (vP j).length).length ≤ 1073741824 := by have := HWL.out; rw [List.length_drop]; omega
            cases hn : numOf (wd.drop (vP j).length) with
            | none =>
              have HVn : Hid (vAt wd (j + 1) = (xk, xv)) := by
                show _ = _
                rw [vAt_no ((numB_pre hp).trans hn), HV.out]
              have HC2 := Lib.hid (value_not _ hn hrl)
              rw [← HR.out] at HC2
              clear hp hn hrl
              go_wp2_with (go_at_call 36; refine (HC.out _).mono ?_; rintro e w3 ⟨rfl, rfl⟩; refine Hid.out ?_)
              refine Lib.hid ?_
              go_wp2_with (go_at_call 37; refine (HC2.out _).mono ?_; rintro e w3 ⟨rfl, rfl⟩; refine Hid.out ?_)
              refine Lib.hid ?_
              go_wp2
              go_roundw
              case rel => exact ⟨j + 1, xk, xv, by omega, by go_num, HVn, HQ, HS, HX, HT⟩
              case measure => simp [intOf]; omega
            | some v =>
              have HVn : Hid (vAt wd (j + 1) = ((j : Int) + 1, (v : Int))) := by
                show _ = _
                rw [vAt_yes ((numB_pre hp).trans hn)]
              have HC2 := Lib.hid (value_yes _ v hn hrl)
              rw [← HR.out] at HC2
              clear hp hn hrl
              go_wp2_with (go_at_call 36; refine (HC.out _).mono ?_; rintro e w3 ⟨rfl, rfl⟩; refine Hid.out ?_)
              refine Lib.hid ?_
              go_wp2_with (go_at_call 37; refine (HC2.out _).mono ?_; rintro e w3 ⟨rfl, rfl⟩; refine Hid.out ?_)
              refine Lib.hid ?_
              go_wp2
              go_roundw
              case rel => exact ⟨j + 1, _, _, by omega, by go_num, HVn, (HQ.out.setCell (p := ⟨wo.heap.size, 0, none⟩) (Nat.le_refl _) _).setCell (p := ⟨wo.heap.size, 1, none⟩) (Nat.le_refl _) _, (by show _ ≤ _; simp; omega), (HX.out.set_ 0 _).set_ 1 _, (HT.out.far (p := ⟨wo.heap.size, 0, none⟩) (by simp) _).far (p := ⟨wo.heap.size, 1, none⟩) (by simp) _⟩
              case measure => simp [intOf]; omega
        · obtain rfl : j = 2 := by omega
          rcases vAt_ev wd with ⟨x, he, hv, hx0⟩ | ⟨he, hv⟩
          · obtain rfl : x = (xk, xv) := by rw [← hv, HV.out]
            have HRn := Lib.hid (HYes.out _ he)
            have HOo : Hid (wr.ownsRow w2.heap.size 31 2 (.slice A k c) k (evc acc)) := own_kept HO.out fun i hi => HQ.out.block i (own_block_le HO.out hi).2
            have HO5 := Lib.hid (HOo.out.alloc (.cells #[.int .i64 xk, .int .u64 xv] 31))
            have HBq := Lib.hid (HB.out.trans (HQ.out.mono hsz))
            have HRd : Hid (Reads (wr.alloc (.cells #[.int .i64 xk, .int .u64 xv] 31)) (wr.heap.size + 1) 2 (some ⟨wr.heap.size, 0, none⟩) 1 [.int .i64 xk, .int .u64 xv]) := one_reads wr 31 (xk, xv)
            have HOne : Hid (∀ u ∈ [Value.int .i64 xk, Value.int .u64 xv], u.oneCell' = true) := Lib.hid (evOne_one (xk, xv))
            have HALn : Hid ((acc ++ [(xk, xv)]).length = k + 1) := by show _ = _; rw [List.length_append, HAL.out]; rfl
            clear he hv HYes HNo
            go_wp2_with (at_builtin; refine wpList_append_any _ rfl _ _ 27 rfl w2.heap.size 31 i1 (.agg #[.int .i64 0, .int .u64 0]) 2 16 Tryd.underlying27 hi1 hy0 hy1 hy2 rfl (by decide) _ k (evc acc) rfl HO5.out (wr.heap.size + 1) (some ⟨wr.heap.size, 0, none⟩) 1 1 [.int .i64 xk, .int .u64 xv] rfl HRd.out HOne.out (by unfold maxLen; omega) (by omega) (by simp; omega) ?_; intro v5 w5 hown5 hgr5 _; refine Hid.out ?_)
            obtain ⟨Aw5, cw5, rfl⟩ := own_slice hown5
            have HO6 : Hid (w5.ownsRow w2.heap.size 31 2 (.slice Aw5 (k + 1) cw5) (k + 1) (evc (acc ++ [(xk, xv)]))) := by
              rw [evc_append]
              exact hown5
            have HB6 : Hid (Below w2.heap.size w2 w5) := (HBq.out.alloc (by omega) _).grown hgr5 (by simp; omega) (fun i hi => (own_block_le HOo.out hi).1)
            clear hown5 hgr5
            refine Lib.hid ?_
            go_wp2
            go_roundw
            case rel => exact ⟨Aw5, cw5, acc ++ [(xk, xv)], k + 1, rfl, by omega, by go_num, HALn, HRn, HO6, HB6⟩
            case measure => simp [intOf]; omega
          · obtain ⟨rfl, rfl⟩ : xk = 0 ∧ xv = 0 := by
              rw [HV.out] at hv
              exact ⟨congrArg Prod.fst hv, congrArg Prod.snd hv⟩
            have HBq := Lib.hid (HB.out.trans (HQ.out.mono hsz))
            obtain ⟨r0, r1, g0, g1⟩ := res_cells (HW2.out.trans (HBq.out.mono hs2))
            have HF : Hid (RefPost t w (.returned (.tuple #[.slice none 0 0, .agg #[.int .i64 0, .int .u64 0], .bool false])) ((wr.setCell ⟨w.heap.size, 0, none⟩ (.int .i64 0)).setCell ⟨w.heap.size, 1, none⟩ (.int .u64 0))) :=
              ref_fail (HNo.out he) (below_res (HA.out.trans ((HW2.out.trans (HBq.out.mono hs2)).mono (by omega))))
            clear he hv HYes HNo
            go_wp2
            exact bodyPost_ret (v := .tuple #[.slice none 0 0, .agg #[.int .i64 0, .int .u64 0], .bool false]) (by simp [results, Tryd.results22, go_sem, r0, r1]) rfl HF.out
    · have hmk : (m : Int) - 1 = (k : Int) := by omega
      have HE : Hid (∀ e, endOf wd = some e → readL t = some (acc, e)) := fun e h => by rw [HRL.out, HG.out, readW_last hwd (by have := HM.out; omega), h]; simp [glue]
      have HN : Hid (endOf wd = none → readL t = none) := fun h => by rw [HRL.out, HG.out, readW_last hwd (by have := HM.out; omega), h]; rfl
      obtain ⟨W, HWs⟩ : ∃ W, Hid (W = str wd) := ⟨_, rfl⟩
      have q1 : wo.cell? ⟨b, off + k, none⟩ = some (.string W) := by rw [HWs.out]; exact HCW.out wo HB.out k wd hwd
      clear hwd HG
      go_wp2
      go_loopw [78] (fun jv wq => ∃ (j : Nat), j ≤ 2 ∧ jv = .int .i64 j ∧ Hid (∀ i, i < j → (eP i).isPrefixOf wd = false) ∧ Hid (Below wo.heap.size wo wq) ∧ Hid (wo.heap.size + 1 ≤ wq.heap.size) ∧ Hid (Blk wq wo.heap.size 9 #[.string (str (eP 0)), .string (str (eP 1))])) (fun jv _ => 2 - (intOf jv).toNat)
      case atStart => exact ⟨0, by omega, rfl, fun i h => absurd h (by omega), (Below.refl _ _).alloc (Nat.le_refl _) _, (by show _ ≤ _; simp), Blk.new wo 9 #[.string (str (eP 0)), .string (str (eP 1))]⟩
      case round =>
        clear q1
        obtain ⟨j, hj, rfl, HPre, HQ, HS, HT⟩ := hrel
        have hqs := HS.out
        have HB1 : Hid (Below (w.heap.size + 1) (w.alloc (.cells #[.int .i64 0, .int .u64 0] 38)) wr) := HW2.out.trans ((HB.out.trans (HQ.out.mono hsz)).mono hs2)
        obtain ⟨r0, r1, g0, g1⟩ := res_cells HB1.out
        by_cases hjl : j < 2
        · obtain ⟨P, HP⟩ : ∃ P, Hid (P = str (eP j)) := ⟨_, rfl⟩
          have q2 : wr.cell? ⟨wo.heap.size, j, none⟩ = some (.string P) := by
            rw [HT.out.cell j, HP.out]
            rcases (by omega : j = 0 ∨ j = 1) with rfl | rfl <;> rfl
          have hpl : Hid ((eP j).length ≤ 100) := by show _ ≤ _; unfold eP; split <;> decide
          cases hp : (eP j).isPrefixOf wd with
          | false =>
            have HPn : Hid (∀ i, i < j + 1 → (eP i).isPrefixOf wd = false) := fun i hi => by
              rcases (by omega : i < j ∨ i = j) with h | rfl
              · exact HPre.out i h
              · exact hp
            have HC := Lib.hid (behind_not (eP j) wd hp HWL.out hpl.out)
            rw [← HWs.out, ← HP.out] at HC
            clear hp r0 r1 g0 g1
            go_wp2_with (go_at_call 36; refine (HC.out _).mono ?_; rintro e w3 ⟨rfl, rfl⟩; refine Hid.out ?_)
            refine Lib.hid ?_
            go_wp2
            go_roundw
            case rel => exact ⟨j + 1, by omega, by go_num, HPn, HQ, HS, HT⟩
            case measure => simp [intOf]; omega
          | true =>
            have HC := Lib.hid (behind_yes (eP j) wd hp HWL.out hpl.out)
            obtain ⟨R, HR⟩ : ∃ R, Hid (R = str (wd.drop (eP j).length)) := ⟨_, rfl⟩
            rw [← HWs.out, ← HP.out, ← HR.out] at HC
            have hrl : (wd.drop (eP j).length).length ≤ 1073741824 := by have := HWL.out; rw [List.length_drop]; omega
            have hep := end_pre hjl hp
            cases hn : numOf (wd.drop (eP j).length) with
            | none =>
              rw [hn] at hep
              have HF : Hid (RefPost t w (.returned (.tuple #[.slice none 0 0, .agg #[.int .i64 0, .int .u64 0], .bool false])) ((wr.setCell ⟨w.heap.size, 0, none⟩ (.int .i64 0)).setCell ⟨w.heap.size, 1, none⟩ (.int .u64 0))) :=
                ref_fail (HN.out hep) (below_res (HA.out.trans (HB1.out.mono (by omega))))
              have HC2 := Lib.hid (value_not _ hn hrl)
              rw [← HR.out] at HC2
              clear hp hn hrl hep
              go_wp2_with (go_at_call 36; refine (HC.out _).mono ?_; rintro e w3 ⟨rfl, rfl⟩; refine Hid.out ?_)
              refine Lib.hid ?_
              go_wp2_with (go_at_call 37; refine (HC2.out _).mono ?_; rintro e w3 ⟨rfl, rfl⟩; refine Hid.out ?_)
              refine Lib.hid ?_
              go_wp2
              exact bodyPost_ret (v := .tuple #[.slice none 0 0, .agg #[.int .i64 0, .int .u64 0], .bool false]) (by simp [results, Tryd.results22, go_sem, r0, r1]) rfl HF.out
            | some v =>
              rw [hn] at hep
              have HF : Hid (RefPost t w (.returned (.tuple #[.slice A k c, .agg #[.int .i64 ((j : Int) + 1), .int .u64 v], .bool true])) ((wr.setCell ⟨w.heap.size, 0, none⟩ (.int .i64 ((j : Int) + 1))).setCell ⟨w.heap.size, 1, none⟩ (.int .u64 v))) :=
                ref_good HAL.out (reads_res HO.out (by omega) HQ.out) (HE.out _ hep) (below_res (HA.out.trans (HB1.out.mono (by omega))))
              have HC2 := Lib.hid (value_yes _ v hn hrl)
              rw [← HR.out] at HC2
              clear hp hn hrl hep
              go_wp2_with (go_at_call 36; refine (HC.out _).mono ?_; rintro e w3 ⟨rfl, rfl⟩; refine Hid.out ?_)
              refine Lib.hid ?_
              go_wp2_with (go_at_call 37; refine (HC2.out _).mono ?_; rintro e w3 ⟨rfl, rfl⟩; refine Hid.out ?_)
              refine Lib.hid ?_
              go_wp2
              exact bodyPost_ret (v := .tuple #[.slice A k c, .agg #[.int .i64 ((j : Int) + 1), .int .u64 v], .bool true]) (by simp [results, Tryd.results22, go_sem, r0, r1]) rfl HF.out
        · obtain rfl : j = 2 := by omega
          clear r0 r1 g0 g1
          obtain ⟨wp, rfl⟩ : ∃ wp, wp = wr := ⟨_, rfl⟩
          go_wp2
          go_loopw [106] (fun jv wq => ∃ (j : Nat), j ≤ 3 ∧ jv = .int .i64 j ∧ Hid (∀ i, i < j → wd ≠ eN i) ∧ Hid (Below wp.heap.size wp wq) ∧ Hid (wp.heap.size + 1 ≤ wq.heap.size) ∧ Hid (Blk wq wp.heap.size 9 #[.string (str (eN 0)), .string (str (eN 1)), .string (str (eN 2))])) (fun jv _ => 3 - (intOf jv).toNat)
          case atStart => exact ⟨0, by omega, rfl, fun i h => absurd h (by omega), (Below.refl _ _).alloc (Nat.le_refl _) _, (by show _ ≤ _; simp), Blk.new wp 9 #[.string (str (eN 0)), .string (str (eN 1)), .string (str (eN 2))]⟩
          case round =>
            obtain ⟨j, hj, rfl, HNm, HQ2, HS2, HT2⟩ := hrel
            have hqs2 := HS2.out
            have HB2 : Hid (Below (w.heap.size + 1) (w.alloc (.cells #[.int .i64 0, .int .u64 0] 38)) wr) := HB1.out.trans (HQ2.out.mono (by omega))
            have HQ3 : Hid (Below wo.heap.size wo wr) := HQ.out.trans (HQ2.out.mono (by omega))
            obtain ⟨r0, r1, g0, g1⟩ := res_cells HB2.out
            by_cases hjl : j < 3
            · obtain ⟨P, HP⟩ : ∃ P, Hid (P = str (eN j)) := ⟨_, rfl⟩
              have q2 : wr.cell? ⟨wp.heap.size, j, none⟩ = some (.string P) := by
                rw [HT2.out.cell j, HP.out]
                rcases (by omega : j = 0 ∨ j = 1 ∨ j = 2) with rfl | rfl | rfl <;> rfl
              by_cases he : wd = eN j
              · have hq : (W.toList == P.toList) = true := by rw [HWs.out, HP.out, he]; simp
                have HF : Hid (RefPost t w (.returned (.tuple #[.slice A k c, .agg #[.int .i64 ((j : Int) + 3), .int .u64 0], .bool true])) ((wr.setCell ⟨w.heap.size, 0, none⟩ (.int .i64 ((j : Int) + 3))).setCell ⟨w.heap.size, 1, none⟩ (.int .u64 0))) :=
                  ref_good HAL.out (reads_res HO.out (by omega) HQ3.out) (HE.out _ (end_name hjl he)) (below_res (HA.out.trans (HB2.out.mono (by omega))))
                clear he
                go_wp2
                exact bodyPost_ret (v := .tuple #[.slice A k c, .agg #[.int .i64 ((j : Int) + 3), .int .u64 0], .bool true]) (by simp [results, Tryd.results22, go_sem, r0, r1]) rfl HF.out
              · have hq : (W.toList == P.toList) = false := by rw [HWs.out, HP.out, str_toList, str_toList]; simpa using he
                have HNn : Hid (∀ i, i < j + 1 → wd ≠ eN i) := fun i hi => by
                  rcases (by omega : i < j ∨ i = j) with h | rfl
                  · exact HNm.out i h
                  · exact he
                clear he r0 r1 g0 g1
                go_wp2
                go_roundw
                case rel => exact ⟨j + 1, by omega, by go_num, HNn, HQ2, HS2, HT2⟩
                case measure => simp [intOf]; omega
            · obtain rfl : j = 3 := by omega
              have HF : Hid (RefPost t w (.returned (.tuple #[.slice none 0 0, .agg #[.int .i64 0, .int .u64 0], .bool false])) ((wr.setCell ⟨w.heap.size, 0, none⟩ (.int .i64 0)).setCell ⟨w.heap.size, 1, none⟩ (.int .u64 0))) :=
                ref_fail (HN.out (end_no HPre.out HNm.out)) (below_res (HA.out.trans (HB2.out.mono (by omega))))
              go_wp2
              exact bodyPost_ret (v := .tuple #[.slice none 0 0, .agg #[.int .i64 0, .int .u64 0], .bool false]) (by simp [results, Tryd.results22, go_sem, r0, r1]) rfl HF.out
end Go.Proofs.YtjmfbmnhkoeceaaDoor
