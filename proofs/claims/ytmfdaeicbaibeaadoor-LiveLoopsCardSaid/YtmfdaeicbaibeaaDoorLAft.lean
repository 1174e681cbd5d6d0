/-
  Package live: liveAfter.
-/
import Derived.Test.YtmfdaeicbaibeaaDoorLCk
import Derived.Test.YtmfdaeicbaibeaaDoorLOr
namespace Go.Proofs.YtmfdaeicbaibeaaDoor
set_option linter.unusedVariables false
set_option linter.unusedSimpArgs false
open Go.ChangeShapes Go.WideShapes Go.ChangeAt Go.RowKit

def orS (wss : List (List Nat)) (i q : Nat) (vs : List Nat) : List (List Nat) := wss.set i (orK (wss.getD i []) vs q)
theorem hasS_or {wss : List (List Nat)} {n q m i : Nat} {vs : List Nat} (h : WfS wss n q m) (hi : i < n) (hv : vs.length = q) (a b : Nat) : hasS (orS wss i q vs) a b = (hasS wss a b || (decide (a = i) && hasW vs b)) := by
  unfold hasS orS
  rw [List.getD_eq_getElem?_getD, List.getElem?_set]
  by_cases e : i = a
  · subst e
    rw [if_pos rfl, if_pos (by rw [h.len]; exact hi), Option.getD_some, orK_has (h.each _ (getD_mem _ (by rw [h.len]; exact hi))) hv]
    simp
  · rw [if_neg e, ← List.getD_eq_getElem?_getD]
    have : ¬ a = i := fun h => e h.symm
    simp [this]
theorem orS_wf {wss : List (List Nat)} {n q m i : Nat} {vs : List Nat} (h : WfS wss n q m) (hi : i < n) (hv : vs.length = q) (hl : ∀ x ∈ vs, x < 18446744073709551616) (hm : ∀ j, hasW vs j = true → j < m) : WfS (orS wss i q vs) n q m := by
  have hmem := getD_mem [] (show i < wss.length by rw [h.len]; exact hi)
  refine ⟨by simp [orS, h.len], fun ws hw => ?_, fun ws hw => ?_, fun a b hab => ?_⟩
  · rcases List.mem_or_eq_of_mem_set hw with hw | rfl
    · exact h.each ws hw
    · rw [orK_len]; exact h.each _ hmem
  · rcases List.mem_or_eq_of_mem_set hw with hw | rfl
    · exact h.lt ws hw
    · exact orK_lt (h.lt _ hmem) hl q
  · rw [hasS_or h hi hv] at hab
    rcases Bool.or_eq_true _ _ ▸ hab with hab | hab
    · exact h.most a b hab
    · simp at hab
      exact hm b hab.2
/-- what lies behind nodes, under way -/
structure OvI (ns : List Nd) (wss : List (List Nat)) (k j : Nat) : Prop where
  low : ∀ i, i < k → ∀ p : Nat, hasS wss i p = true ↔ LiveO ns p i
  mid : ∀ p : Nat, hasS wss k p = true ↔ ∃ nd, ns[k]? = some nd ∧ ∃ x : Nat, (x : Int) ∈ (nextsOf nd).take j ∧ Live ns p x
  high : ∀ i, k < i → ∀ p, hasS wss i p = false
theorem OvI.start (ns : List Nd) (n q : Nat) : OvI ns (List.replicate n (List.replicate q 0)) 0 0 :=
  ⟨fun i hi => absurd hi (by omega), fun p => by rw [zeroS_has]; simp, fun i _ p => zeroS_has n q i p⟩
theorem OvI.next {ns : List Nd} {wss : List (List Nat)} {k j : Nat} {nd : Nd} (h : OvI ns wss k j) (hn : ns[k]? = some nd) (hj : (nextsOf nd).length ≤ j) : OvI ns wss (k + 1) 0 := by
  refine ⟨fun i hi p => ?_, fun p => ?_, fun i hi p => h.high i (by omega) p⟩
  · by_cases e : i = k
    · subst e
      rw [h.mid p]
      unfold LiveO
      constructor
      · rintro ⟨n2, h1, x, h2, h3⟩
        exact ⟨n2, h1, x, List.mem_of_mem_take h2, h3⟩
      · rintro ⟨n2, h1, x, h2, h3⟩
        have e2 : n2 = nd := by
          rw [hn] at h1
          injection h1 with h1
          exact h1.symm
        subst e2
        exact ⟨n2, h1, x, by rw [List.take_of_length_le hj]; exact h2, h3⟩
    · exact h.low i (by omega) p
  · rw [h.high (k + 1) (by omega) p]
    simp
theorem OvI.step {ns : List Nd} {wa wss : List (List Nat)} {k j n q m x : Nat} {nd : Nd} (h : OvI ns wss k j) (hw : WfS wss n q m) (hk : k < n) (hl : (wa.getD x []).length = q) (hn : ns[k]? = some nd) (hx : (nextsOf nd)[j]? = some (x : Int)) (hL : ∀ i p, hasS wa i p = true ↔ Live ns p i) :
    OvI ns (orS wss k q (wa.getD x [])) k (j + 1) := by
  refine ⟨fun i hi p => ?_, fun p => ?_, fun i hi p => ?_⟩
  · rw [hasS_or hw hk hl]
    have : ¬ i = k := by omega
    simpa [this] using h.low i hi p
  · rw [hasS_or hw hk hl, Bool.or_eq_true, h.mid p]
    simp only [decide_true, Bool.true_and]
    rw [show hasW (wa.getD x []) p = hasS wa x p from rfl, hL x p]
    constructor
    · rintro (⟨n2, h1, y, h2, h3⟩ | h1)
      · refine ⟨n2, h1, y, ?_, h3⟩
        rw [List.take_add_one]
        exact List.mem_append_left _ h2
      · exact ⟨nd, hn, x, by rw [List.take_add_one, hx]; simp, h1⟩
    · rintro ⟨n2, h1, y, h2, h3⟩
      have e2 : n2 = nd := by
        rw [hn] at h1
        injection h1 with h1
        exact h1.symm
      subst e2
      rw [List.take_add_one, hx] at h2
      rcases List.mem_append.1 h2 with h2 | h2
      · exact .inl ⟨n2, h1, y, h2, h3⟩
      · have : y = x := by
          have : (y : Int) = x := by simpa using h2
          omega
        subst this
        exact .inr h3
  · rw [hasS_or hw hk hl, h.high i hi p]
    have : ¬ i = k := by omega
    simp [this]
section
variable {w w' : World} {R n q m k : Nat} {wss : List (List Nat)}
/-- sets after an Or -/
theorem SetsI.or {vs : List Nat} (h : SetsI w R n q m wss) (hk : k < n) (hb : Blk w' (R + 1 + 2 * k) 40 (u64n (orK (wss.getD k []) vs q)).toArray) (kp : KpB w w' (R + 1 + 2 * k)) (hv : vs.length = q) (hl : ∀ x ∈ vs, x < 18446744073709551616) (hm : ∀ j, hasW vs j = true → j < m) : SetsI w' R n q m (orS wss k q vs) := by
  refine ⟨kp.blk h.row (by omega), fun i hi => kp.blk (h.box i hi) (by omega), fun i hi => ?_, orS_wf h.wf hk hv hl hm, h.qm, h.mb⟩
  by_cases e : i = k
  · subst e
    unfold orS
    rw [List.getD_eq_getElem?_getD, List.getElem?_set, if_pos rfl, if_pos (by rw [h.wf.len]; exact hi), Option.getD_some]
    exact hb
  · unfold orS
    rw [List.getD_eq_getElem?_getD, List.getElem?_set, if_neg (fun h => e h.symm), ← List.getD_eq_getElem?_getD]
    exact kp.blk (h.words i hi) (by omega)
theorem SetsI.apart {b : Nat} {ws : List Nat} (h : SetsI w R n q m wss) (hw : Blk w b 40 (u64n ws).toArray) (kp : KpB w w' b) (hb : ∀ i, i < n → R + 1 + 2 * i ≠ b) : SetsI w' R n q m wss :=
  ⟨kp.blk h.row (Blk.ne_ h.row hw (by decide)), fun i hi => kp.blk (h.box i hi) (Blk.ne_ (h.box i hi) hw (by decide)), fun i hi => kp.blk (h.words i hi) (hb i hi), h.wf, h.qm, h.mb⟩
end
/-- both sets -/
structure AfI (W : World) (Ra Rb n q m : Nat) (wa wb : List (List Nat)) (wr : World) : Prop where
  sa : SetsI wr Ra n q m wa
  sb : SetsI wr Rb n q m wb
  ap : ∀ i j, i < n → j < n → Ra + 1 + 2 * i ≠ Rb + 1 + 2 * j
  below : Below W.heap.size W wr
  lb : W.heap.size < Rb
theorem AfI.on {W wr w' : World} {Ra Rb n q m : Nat} {wa wb : List (List Nat)} (h : AfI W Ra Rb n q m wa wb wr) (hb : Below wr.heap.size wr w') : AfI W Ra Rb n q m wa wb w' :=
  ⟨h.sa.below hb, h.sb.below hb, h.ap, h.below.trans (hb.mono h.below.size), h.lb⟩
/-- first the sets at nodes, then fresh ones -/
theorem AfI.A {W w1 w2 w3 : World} {Ra Rb n q m : Nat} {wa wb : List (List Nat)} (h0 : Below W.heap.size W w1) (hz : W.heap.size < w1.heap.size) (ha : SetsI w2 Ra n q m wa) (hb : Below w1.heap.size w1 w2) (hc : SetsI w3 Rb n q m wb) (hd : Below w2.heap.size w2 w3) (he : w2.heap.size ≤ Rb) : AfI W Ra Rb n q m wa wb w3 := by
  have h1 := hb.size
  refine ⟨ha.below hd, hc, fun i j hi hj => ?_, (h0.trans (hb.mono h0.size)).trans (hd.mono (by omega)), by omega⟩
  have := (ha.words i hi).lt
  omega
/-- .. the other way round -/
theorem AfI.B {W w1 w2 w3 : World} {Ra Rb n q m : Nat} {wa wb : List (List Nat)} (h0 : Below W.heap.size W w1) (hz : W.heap.size < w1.heap.size) (hc : SetsI w2 Rb n q m wb) (hb : Below w1.heap.size w1 w2) (hr : w1.heap.size ≤ Rb) (ha : SetsI w3 Ra n q m wa) (hd : Below w2.heap.size w2 w3) (he : w2.heap.size ≤ Ra) : AfI W Ra Rb n q m wa wb w3 := by
  have h1 := hb.size
  refine ⟨ha, hc.below hd, fun i j hi hj => ?_, (h0.trans (hb.mono h0.size)).trans (hd.mono (by omega)), by omega⟩
  have := (hc.words j hj).lt
  omega
set_option maxRecDepth 100000 in
set_option maxHeartbeats 6400000 in
theorem liveAfter_any (B : Nat) (po ko io no : Option Addr) (nP pc nK kc nI ic n nc q : Nat) (cells keep entry : Int) (res : Bool) (rn : List RN) (w : World) (hN : RdNs w B no n rn) (hB : B ≤ w.heap.size) (hn : n ≤ 4096) (hK : nK ≤ 1024) (hq : q = (nK + 63) / 64) (hv : NextIn (nds rn)) (hrd : ReadIn (nds rn) nK) :
    Calls Tryd.prog 21 #[.agg #[.slice po nP pc, .slice ko nK kc, .int .i64 cells, .slice io nI ic, .bool res, .int .i64 keep, .slice no n nc, .int .i64 entry]] w fun e w' =>
      ∃ R wss, e = .returned (.slice (some ⟨R, 0, none⟩) n n) ∧ SetsI w' R n q nK wss ∧ (∀ i, i < n → ∀ p : Nat, hasS wss i p = true ↔ LiveO (nds rn) p i) ∧ Below w.heap.size w w' ∧ w.heap.size < R := by
  have hb1 : Below w.heap.size w (w.alloc (.cells #[.slice po nP pc, .slice ko nK kc, .int .i64 cells, .slice io nI ic, .bool res, .int .i64 keep, .slice no n nc, .int .i64 entry] 37)) := (Below.refl _ _).alloc (Nat.le_refl _) _
  have hg1 := Blk.new w 37 #[.slice po nP pc, .slice ko nK kc, .int .i64 cells, .slice io nI ic, .bool res, .int .i64 keep, .slice no n nc, .int .i64 entry]
  have HAT : Hid (∀ W, Below w.heap.size w W → Calls Tryd.prog 20 #[.agg #[.slice po nP pc, .slice ko nK kc, .int .i64 cells, .slice io nI ic, .bool res, .int .i64 keep, .slice no n nc, .int .i64 entry]] W fun e w' =>
      ∃ R wss, e = .returned (.slice (some ⟨R, 0, none⟩) n n) ∧ SetsI w' R n q nK wss ∧ (∀ i p, hasS wss i p = true ↔ Live (nds rn) p i) ∧ Below W.heap.size W w' ∧ W.heap.size < R) := Lib.hid fun W hbw => liveAt_any B po ko io no nP pc nK kc nI ic n nc q cells keep entry res rn W (hN.below (hbw.mono hB)) (by have := hbw.size; omega) hn hK hq hv hrd
  have HNW := Lib.hid (fun W => newSets_any po ko io no nP pc nK kc nI ic n nc q cells keep entry res W hn hK hq)
  have HRN := Lib.hid hN
  have HV := Lib.hid hv
  have HLN : Hid ((nds rn).length = n) := Lib.hid (by rw [length_nds]; exact hN.len)
  obtain ⟨W1, hW1⟩ : ∃ W, W = (w.alloc (.cells #[.slice po nP pc, .slice ko nK kc, .int .i64 cells, .slice io nI ic, .bool res, .int .i64 keep, .slice no n nc, .int .i64 entry] 37)) := ⟨_, rfl⟩
  have HZ1 : Hid (w.heap.size < W1.heap.size) := Lib.hid (by rw [hW1]; simp)
  have HB1 : Hid (Below w.heap.size w W1) := Lib.hid (by rw [hW1]; exact hb1)
  have HG1 : Hid (Blk W1 w.heap.size 37 #[.slice po nP pc, .slice ko nK kc, .int .i64 cells, .slice io nI ic, .bool res, .int .i64 keep, .slice no n nc, .int .i64 entry]) := Lib.hid (by rw [hW1]; exact hg1)
  clear hN hv hrd hb1 hg1
  go_enter Tryd.func21, Tryd.ntmps21
  go_upto_region 1 with fail
  rw [← hW1]
  clear hW1 hq
  go_cut [3, 4] (fun s3 s4 wx => ∃ Ra Rb wa, s3 = .slice (some ⟨Ra, 0, none⟩) n n ∧ s4 = .slice (some ⟨Rb, 0, none⟩) n n ∧ Hid (AfI w Ra Rb n q nK wa (List.replicate n (List.replicate q 0)) wx) ∧ Hid (∀ i p, hasS wa i p = true ↔ Live (nds rn) p i) ∧ Hid (Blk wx w.heap.size 37 #[.slice po nP pc, .slice ko nK kc, .int .i64 cells, .slice io nI ic, .bool res, .int .i64 keep, .slice no n nc, .int .i64 entry]))
  case first =>
    have x0 : W1.cell? ⟨w.heap.size, 0, none⟩ = some (.slice po nP pc) := HG1.out.cell 0
    have x1 : W1.cell? ⟨w.heap.size, 1, none⟩ = some (.slice ko nK kc) := HG1.out.cell 1
    have x2 : W1.cell? ⟨w.heap.size, 2, none⟩ = some (.int .i64 cells) := HG1.out.cell 2
    have x3 : W1.cell? ⟨w.heap.size, 3, none⟩ = some (.slice io nI ic) := HG1.out.cell 3
    have x4 : W1.cell? ⟨w.heap.size, 4, none⟩ = some (.bool res) := HG1.out.cell 4
    have x5 : W1.cell? ⟨w.heap.size, 5, none⟩ = some (.int .i64 keep) := HG1.out.cell 5
    have x6 : W1.cell? ⟨w.heap.size, 6, none⟩ = some (.slice no n nc) := HG1.out.cell 6
    have x7 : W1.cell? ⟨w.heap.size, 7, none⟩ = some (.int .i64 entry) := HG1.out.cell 7
    have HX : Hid (∀ W, Below W1.heap.size W1 W → Blk W w.heap.size 37 #[.slice po nP pc, .slice ko nK kc, .int .i64 cells, .slice io nI ic, .bool res, .int .i64 keep, .slice no n nc, .int .i64 entry]) := Lib.hid fun W hb => HG1.out.below hb HG1.out.lt
    go_region_law (go_simp; first
      | (go_at_call 20; refine (HAT.out W1.drew HB1.out.drew).mono ?_; rintro e w2 ⟨Ra, wa, rfl, hs2, hl2, hb2, hlt2⟩; have HY := Lib.hid (HX.out w2 ((Below.refl _ _).drew.trans hb2)); have y0 := (HY.out.cell 0 : w2.cell? ⟨w.heap.size, 0, none⟩ = some (.slice po nP pc)); have y1 := (HY.out.cell 1 : w2.cell? ⟨w.heap.size, 1, none⟩ = some (.slice ko nK kc)); have y2 := (HY.out.cell 2 : w2.cell? ⟨w.heap.size, 2, none⟩ = some (.int .i64 cells)); have y3 := (HY.out.cell 3 : w2.cell? ⟨w.heap.size, 3, none⟩ = some (.slice io nI ic)); have y4 := (HY.out.cell 4 : w2.cell? ⟨w.heap.size, 4, none⟩ = some (.bool res)); have y5 := (HY.out.cell 5 : w2.cell? ⟨w.heap.size, 5, none⟩ = some (.int .i64 keep)); have y6 := (HY.out.cell 6 : w2.cell? ⟨w.heap.size, 6, none⟩ = some (.slice no n nc)); have y7 := (HY.out.cell 7 : w2.cell? ⟨w.heap.size, 7, none⟩ = some (.int .i64 entry)))
      | (go_at_call 43; refine (HNW.out W1.drew).mono ?_; rintro e w2 ⟨rfl, hs2, hb2, hz2⟩; have HY := Lib.hid (HX.out w2 ((Below.refl _ _).drew.trans hb2)); have HB2 := Lib.hid (HB1.out.drew.trans (hb2.mono HB1.out.size)); have y0 := (HY.out.cell 0 : w2.cell? ⟨w.heap.size, 0, none⟩ = some (.slice po nP pc)); have y1 := (HY.out.cell 1 : w2.cell? ⟨w.heap.size, 1, none⟩ = some (.slice ko nK kc)); have y2 := (HY.out.cell 2 : w2.cell? ⟨w.heap.size, 2, none⟩ = some (.int .i64 cells)); have y3 := (HY.out.cell 3 : w2.cell? ⟨w.heap.size, 3, none⟩ = some (.slice io nI ic)); have y4 := (HY.out.cell 4 : w2.cell? ⟨w.heap.size, 4, none⟩ = some (.bool res)); have y5 := (HY.out.cell 5 : w2.cell? ⟨w.heap.size, 5, none⟩ = some (.int .i64 keep)); have y6 := (HY.out.cell 6 : w2.cell? ⟨w.heap.size, 6, none⟩ = some (.slice no n nc)); have y7 := (HY.out.cell 7 : w2.cell? ⟨w.heap.size, 7, none⟩ = some (.int .i64 entry)))
      | (go_at_call 43; refine (HNW.out w2).mono ?_; rintro e w3 ⟨rfl, hs3, hb3, hz3⟩; have HY3 := Lib.hid (HY.out.below hb3 HY.out.lt))
      | (go_at_call 20; refine (HAT.out w2 HB2.out).mono ?_; rintro e w3 ⟨Ra, wa, rfl, hs3, hl3, hb3, hlt3⟩; have HY3 := Lib.hid (HY.out.below hb3 HY.out.lt)))
    all_goals
      go_wp2_with fail
      go_meet
      first
        | exact ⟨_, _, _, rfl, rfl, Lib.hid (AfI.A HB1.out.drew HZ1.out hs2 hb2 hs3 hb3 (Nat.le_succ _)), Lib.hid hl2, HY3⟩
        | exact ⟨_, _, _, rfl, rfl, Lib.hid (AfI.B HB1.out.drew HZ1.out hs2 hb2 (Nat.le_succ _) hs3 hb3 (Nat.le_of_lt hlt3)), Lib.hid hl3, HY3⟩
  case rest =>
    obtain ⟨Ra, Rb, wa, rfl, rfl, HA0, HLV, HY⟩ := hcut
    have g6 : wc.cell? ⟨w.heap.size, 6, none⟩ = some (.slice no n nc) := HY.out.cell 6
    clear HNW HAT HG1 HB1 HZ1 W1
    go_wp2
    clear g6
    go_loopw [16] (fun i wr => ∃ (k : Nat) (wb : List (List Nat)), k ≤ n ∧ i = .int .i64 k ∧ Hid (AfI w Ra Rb n q nK wa wb wr) ∧ Hid (OvI (nds rn) wb k 0)) (fun i _ => n - (intOf i).toNat)
    case atStart => exact ⟨0, _, by omega, rfl, HA0, Lib.hid (OvI.start _ _ _)⟩
    case round =>
      clear HA0 HY
      obtain ⟨k, wb, hk, rfl, HA, HO⟩ := hrel
      by_cases hlt : k < n
      · obtain ⟨bn, on, i, hno, hbn, HXI, HRN1, HWI, u0, u1, u2, u3, u4, u5, u6, u7, u8, u9, u10, u11⟩ := (HRN.out.below (HA.out.below.mono hB)).nd hlt
        have HXN : Hid ((nds rn)[k]? = some i.nd) := Lib.hid (by unfold nds; rw [List.getElem?_map, HXI.out]; rfl)
        have hwz := HA.out.below.size
        have hbnr : bn < wr.heap.size := by omega
        have hb6 : Below wr.heap.size wr (wr.alloc (.cells #[.int .u8 i.nd.op, .int .u8 i.nd.bop, .int .i64 i.nd.d, .int .i64 i.nd.e, .int .i64 i.nd.a, .int .i64 i.nd.b, .int .i64 i.nd.f, .int .i64 i.nd.cell, .int .u64 i.nd.imm, .slice i.ao i.nd.args.length i.ac, .int .i64 i.nd.next, .int .i64 i.nd.els] 64)) := (Below.refl _ _).alloc (Nat.le_refl _) _
        have HNX := Lib.hid (gnext_own i.nd.op i.nd.bop i.nd.d i.nd.e i.nd.a i.nd.b i.nd.f i.nd.cell i.nd.imm i.nd.args i.nd.next i.nd.els i.ao i.nd.args.length i.ac (wr.alloc (.cells #[.int .u8 i.nd.op, .int .u8 i.nd.bop, .int .i64 i.nd.d, .int .i64 i.nd.e, .int .i64 i.nd.a, .int .i64 i.nd.b, .int .i64 i.nd.f, .int .i64 i.nd.cell, .int .u64 i.nd.imm, .slice i.ao i.nd.args.length i.ac, .int .i64 i.nd.next, .int .i64 i.nd.els] 64)) HWI.out.o0 HWI.out.o1)
        have HB6 := Lib.hid hb6
        rw [hno]
        have HNO := Lib.hid hno
        clear hno hb6
        obtain ⟨xs, hxs⟩ : ∃ xs, xs = nextsOf ⟨i.nd.op, i.nd.bop, i.nd.d, i.nd.e, i.nd.a, i.nd.b, i.nd.f, i.nd.cell, i.nd.imm, i.nd.args, i.nd.next, i.nd.els⟩ := ⟨_, rfl⟩
        rw [← hxs] at HNX
        have HXS : Hid (xs = nextsOf i.nd) := Lib.hid hxs
        have HXI2 : Hid (∀ x ∈ xs, 0 ≤ x ∧ x < (n : Int)) := Lib.hid (by
          rw [HXS.out, ← HLN.out]
          exact nextIn_at HV.out HXN.out)
        have hm2 : xs.length ≤ 2 := by rw [HXS.out]; exact nexts_len _
        clear hxs
        go_wp2_with (go_at_call 44; refine HNX.out.mono ?_; rintro e w5 ⟨A5, c5, rfl, ho5, hc5, hb5⟩; have HO5 := Lib.hid ho5; have HA5 := Lib.hid (HA.out.on (HB6.out.trans (hb5.mono HB6.out.size))); clear ho5 hb5)
        clear u0 u1 u2 u3 u4 u5 u6 u7 u8 u9 u10 u11 hbnr
        obtain ⟨m, hm⟩ : ∃ m, m = xs.length := ⟨_, rfl⟩
        rw [← hm] at HO5 hm2 hc5 ⊢
        have HM := Lib.hid hm
        obtain ⟨b5, hb5⟩ : ∃ b, b = (wr.alloc (.cells #[.int .u8 i.nd.op, .int .u8 i.nd.bop, .int .i64 i.nd.d, .int .i64 i.nd.e, .int .i64 i.nd.a, .int .i64 i.nd.b, .int .i64 i.nd.f, .int .i64 i.nd.cell, .int .u64 i.nd.imm, .slice i.ao i.nd.args.length i.ac, .int .i64 i.nd.next, .int .i64 i.nd.els] 64)).heap.size := ⟨_, rfl⟩
        rw [← hb5] at HO5
        clear hm hb5 HA HNX HB6 HRN1
        go_loopw [24] (fun i wr => ∃ (j : Nat) (wb : List (List Nat)), j ≤ m ∧ i = .int .i64 j ∧ Hid (AfI w Ra Rb n q nK wa wb wr) ∧ Hid (OvI (nds rn) wb k j) ∧ Hid (wr.ownsRow b5 3 1 (.slice A5 m c5) m (i64c xs))) (fun i _ => m - (intOf i).toNat)
        case atStart => exact ⟨0, wb, by omega, rfl, HA5, HO, HO5⟩
        case round =>
          clear HA5 HO HO5
          obtain ⟨j, wb, hj, rfl, HA, HO, HR⟩ := hrel
          by_cases hjl : j < m
          · obtain ⟨bx, ox, x, hxe, hbx, HXX, x1⟩ := (Reads.of_own HR.out).int hjl
            obtain ⟨hx0, hx1⟩ := HXI2.out x (List.mem_of_getElem? HXX.out)
            obtain ⟨y, rfl⟩ : ∃ y : Nat, x = (y : Int) := ⟨x.toNat, by omega⟩
            have hy : y < n := by omega
            have ra : wr.cell? ⟨Ra, y, none⟩ = some (.pointer (some ⟨Ra + 2 + 2 * y, 0, none⟩)) := by rw [HA.out.sa.row.cell, rowA_at _ hy]
            have rb : wr.cell? ⟨Rb, k, none⟩ = some (.pointer (some ⟨Rb + 2 + 2 * k, 0, none⟩)) := by rw [HA.out.sb.row.cell, rowA_at _ hlt]
            have hma := getD_mem [] (show y < wa.length by rw [HA.out.sa.wf.len]; exact hy)
            have hmb := getD_mem [] (show k < wb.length by rw [HA.out.sb.wf.len]; exact hlt)
            have HL1 := Lib.hid (HA.out.sa.wf.each _ hma)
            have HL2 := Lib.hid (HA.out.sa.wf.lt _ hma)
            have HL3 : Hid (∀ j, hasW (wa.getD y []) j = true → j < nK) := Lib.hid fun j hj => HA.out.sa.wf.most y j hj
            have HOR := Lib.hid (lor_any (Rb + 2 + 2 * k) (Rb + 1 + 2 * k) (Ra + 2 + 2 * y) (Ra + 1 + 2 * y) nK q (wb.getD k []) (wa.getD y []) wr.drew (HA.out.sb.box k hlt) (HA.out.sb.words k hlt) (HA.out.sa.box y hy) (HA.out.sa.words y hy) (HA.out.sb.wf.each _ hmb) HL1.out (HA.out.sb.wf.lt _ hmb) HL2.out hK HA.out.sa.qm HL3.out (HA.out.ap y k hy hlt))
            have HST := Lib.hid (HO.out.step HA.out.sb.wf hlt HL1.out HXN.out (show (nextsOf i.nd)[j]? = some (y : Int) by rw [← HXS.out]; exact HXX.out) HLV.out)
            have HXE := Lib.hid hxe
            rw [hxe]
            clear hxe hx0 hx1 hma hmb HXX
            go_wp2
            go_still_tail 8, (by kernel_rfl)
            change wpList _ _ _ _ _ wr.drew
            go_wp2_with (go_at_call 45; refine HOR.out.mono ?_; rintro e w7 ⟨⟨bo, rfl⟩, hb7, hk7⟩; have HB7 := Lib.hid hb7; have HK7 := Lib.hid hk7; clear hb7 hk7)
            go_roundw
            case rel =>
              rw [← HXE.out]
              have hwb : Blk wr (Rb + 1 + 2 * k) 40 _ := HA.out.sb.words k hlt
              have hbe : Below w.heap.size wr w7 := (Below.refl _ _).drew.trans (HK7.out.out w.heap.size HA.out.below.size (by have := HA.out.lb; omega))
              refine ⟨j + 1, _, by omega, by go_num, Lib.hid ⟨SetsI.apart (w := wr.drew) (HA.out.sa.drewN 1) hwb HK7.out (fun i hi => HA.out.ap i k hi hlt), SetsI.or (w := wr.drew) (HA.out.sb.drewN 1) hlt HB7.out HK7.out HL1.out HL2.out HL3.out, HA.out.ap, HA.out.below.trans hbe, HA.out.lb⟩, HST, Lib.hid (own_kept (w := wr.drew) HR.out fun g hg => HK7.out.block g (own_block_le HR.out hg).2 fun e => own_blk_ne HR.out hwb (by decide) (by rw [hg, e]))⟩
            case measure => simp [intOf]; omega
          · obtain rfl : m = j := by omega
            have HNXT := Lib.hid (HO.out.next HXN.out (by rw [← HXS.out, ← HM.out]; exact Nat.le_refl _))
            go_wp2
            go_roundw
            case rel => exact ⟨k + 1, wb, by omega, by go_num, HA, HNXT⟩
            case measure => simp [intOf]; omega
      · have hkn : k = n := by omega
        rw [hkn] at HO
        go_wp2
        go_ret
        exact ⟨Rb, wb, rfl, HA.out.sb, HO.out.low, HA.out.below, HA.out.lb⟩
end Go.Proofs.YtmfdaeicbaibeaaDoor
