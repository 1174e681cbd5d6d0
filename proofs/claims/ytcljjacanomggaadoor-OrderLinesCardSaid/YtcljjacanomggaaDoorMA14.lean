/-
  Texts of one seat, one behind the other: OSo, OSp, OFi, Rin.
-/
import Derived.Test.YtcljjacanomggaaDoorMA12
import Derived.Test.YtcljjacanomggaaDoorMA13
import Derived.Test.YtcljjacanomggaaDoorMA8
import Derived.Test.YtcljjacanomggaaDoorMA3

/-
  Package order: spansOf.
-/
namespace Go.Proofs.YtcljjacanomggaaDoor
set_option linter.unusedVariables false
set_option linter.unusedSimpArgs false
open Go.ChangeShapes Go.WideShapes Go.ChangeAt Go.RowKit

theorem writes_in {gs : List Gr} {g : Gr} {n : Nd} (h : uses gs g false n) : ∀ x ∈ writesOf n, 0 ≤ x ∧ x < (g.kinds.length : Int) := by
  intro x hx
  have hx' : x ∈ writeF n ∧ 0 ≤ x := by
    rcases addL_mem _ hx with h1 | h1
    · cases h1
    · exact h1
  obtain ⟨h1, h0⟩ := hx'
  refine ⟨h0, ?_⟩
  have key : ∀ k, fits g.kinds false x k → x < (g.kinds.length : Int) := fun k hf => hf.1.2
  unfold writeF at h1
  unfold uses at h
  split at h1
  · rename_i ho
    obtain rfl : x = n.d := by simpa using h1
    rcases ho with e | e | e | e | e | e | e | e
    · rw [e] at h; simp at h; exact key _ h
    · rw [e] at h; simp at h; exact key _ h.2
    · rw [e] at h; simp at h; exact key _ h.2.1
    · rw [e] at h; simp at h; exact key _ h.2
    · rw [e] at h; simp at h; exact key _ h.2
    · rw [e] at h; simp at h; exact key _ h.1
    · rw [e] at h
      simp at h
      rcases h.2 with h2 | h2
      · omega
      · exact key _ h2.2.1
    · rw [e] at h; simp at h; exact key _ h
  · split at h1
    · rename_i ho
      rw [ho] at h
      simp at h h1
      rcases h1 with rfl | rfl
      · exact key _ h.2.1
      · exact key _ h.2.2
    · cases h1
theorem valid_writes {gs : List Gr} {g : Gr} (h : valid gs false) (hg : g ∈ gs) : ∀ n ∈ g.nodes, ∀ x ∈ writesOf n, 0 ≤ x ∧ x < (g.kinds.length : Int) := fun n hn => writes_in (h.2.2.2 g hg n hn).1
theorem valid_params {gs : List Gr} {g : Gr} (h : valid gs false) (hg : g ∈ gs) : (∀ x ∈ g.params, 0 ≤ x ∧ x < (g.kinds.length : Int)) ∧ g.params.length ≤ 4 := by
  have hh := (h.2.2.1 g hg).2.2.2.1
  refine ⟨fun x hx => ?_, hh.1⟩
  have h2 := hh.2
  rw [if_neg (by decide)] at h2
  obtain ⟨i, hi, rfl⟩ := List.mem_iff_getElem.1 hx
  have h3 := (h2 i hi).1
  rw [List.getD_eq_getElem?_getD, List.getElem?_eq_getElem hi] at h3
  exact h3
open Classical in
theorem liveN_mem {ns : List Nd} {m i : Nat} (p : Nat) (hp : p < m) : (p : Int) ∈ liveL ns m i ↔ Live ns p i := by
  unfold liveL
  constructor
  · intro h
    obtain ⟨q, hq, e⟩ := List.mem_map.1 h
    have : q = p := by omega
    subst this
    simpa using (List.mem_filter.1 hq).2
  · intro h
    exact List.mem_map.2 ⟨p, List.mem_filter.2 ⟨List.mem_range.2 hp, by simpa using h⟩, rfl⟩
open Classical in
theorem liveON_mem {ns : List Nd} {m i : Nat} (p : Nat) (hp : p < m) : (p : Int) ∈ liveOL ns m i ↔ LiveO ns p i := by
  unfold liveOL
  constructor
  · intro h
    obtain ⟨q, hq, e⟩ := List.mem_map.1 h
    have : q = p := by omega
    subst this
    simpa using (List.mem_filter.1 hq).2
  · intro h
    exact List.mem_map.2 ⟨p, List.mem_filter.2 ⟨List.mem_range.2 hp, by simpa using h⟩, rfl⟩
open Classical in
theorem liveL_in {ns : List Nd} {m i : Nat} : ∀ x ∈ liveL ns m i, 0 ≤ x ∧ x < (m : Int) := by
  intro x hx
  unfold liveL at hx
  obtain ⟨q, hq, rfl⟩ := List.mem_map.1 hx
  have := List.mem_range.1 (List.mem_filter.1 hq).1
  omega
open Classical in
theorem liveOL_in {ns : List Nd} {m i : Nat} : ∀ x ∈ liveOL ns m i, 0 ≤ x ∧ x < (m : Int) := by
  intro x hx
  unfold liveOL at hx
  obtain ⟨q, hq, rfl⟩ := List.mem_map.1 hx
  have := List.mem_range.1 (List.mem_filter.1 hq).1
  omega
open Classical in
theorem liveL_max (ns : List Nd) (m i : Nat) : (liveL ns m i).length ≤ m := by
  unfold liveL
  rw [List.length_map]
  have := List.length_filter_le (fun p : Nat => decide (Live ns (p : Int) i)) (List.range m)
  simpa using this
open Classical in
theorem liveOL_max (ns : List Nd) (m i : Nat) : (liveOL ns m i).length ≤ m := by
  unfold liveOL
  rw [List.length_map]
  have := List.length_filter_le (fun p : Nat => decide (LiveO ns (p : Int) i)) (List.range m)
  simpa using this
theorem spans_kept (ns : List Nd) (ps l : List Int) (m : Nat) : keptK (fun p => ivK ns ps l (p : Int) l.length) m = spansL ns ps l m := by
  unfold keptK spansL
  refine List.filter_congr fun s hs => ?_
  obtain ⟨p, _, rfl⟩ := List.mem_map.1 hs
  have := (ivK_le ns ps l (p : Int) l.length).1
  rw [decide_eq_decide]
  omega
structure SoI (W : World) (gb b R m : Nat) (cs : Array Value) (g : Nat → Iv) (wr : World) : Prop where
  gr : Blk wr gb 38 cs
  box : Blk wr b 30 #[.slice (some ⟨R, 0, none⟩) m m]
  row : Blk wr R 42 (ivA m g)
  below : Below W.heap.size W wr
  lt : W.heap.size ≤ R
section
variable {W wr w2 : World} {gb b R m : Nat} {cs : Array Value} {g g' : Nat → Iv}
theorem SoI.on (h : SoI W gb b R m cs g wr) (hb : Below wr.heap.size wr w2) : SoI W gb b R m cs g w2 :=
  ⟨h.gr.below hb h.gr.lt, h.box.below hb h.box.lt, h.row.below hb h.row.lt, h.below.trans (hb.mono h.below.size), h.lt⟩
theorem SoI.kp (h : SoI W gb b R m cs g wr) (hk : KpB wr w2 R) (hr : Blk w2 R 42 (ivA m g')) : SoI W gb b R m cs g' w2 :=
  ⟨hk.blk h.gr (Blk.ne_ h.gr h.row (by decide)), hk.blk h.box (Blk.ne_ h.box h.row (by decide)), hr, h.below.trans (hk.out W.heap.size h.below.size h.lt), h.lt⟩
theorem SoI.congr (h : SoI W gb b R m cs g wr) (he : ∀ p, p < m → g p = g' p) : SoI W gb b R m cs g' wr := ⟨h.gr, h.box, by rw [← ivA_congr he]; exact h.row, h.below, h.lt⟩
end
theorem SoI.start (w : World) (m : Nat) (cs : Array Value) : SoI w w.heap.size (w.heap.size + 1 + 1) (w.heap.size + 1) m cs (fun _ => ivZ) (((w.alloc (.cells cs 38)).alloc (.cells (ivA m fun _ => ⟨0, 0, 0, false⟩) 42)).alloc (.cells #[.slice (some ⟨w.heap.size + 1, 0, none⟩) m m] 30)) := by
  have h1 := Blk.new (w.alloc (.cells cs 38)) 42 (ivA m fun _ => ⟨0, 0, 0, false⟩)
  have h2 := Blk.new ((w.alloc (.cells cs 38)).alloc (.cells (ivA m fun _ => ⟨0, 0, 0, false⟩) 42)) 30 #[.slice (some ⟨w.heap.size + 1, 0, none⟩) m m]
  rw [show (w.alloc (.cells cs 38)).heap.size = w.heap.size + 1 by simp] at h1
  rw [show ((w.alloc (.cells cs 38)).alloc (.cells (ivA m fun _ => ⟨0, 0, 0, false⟩) 42)).heap.size = w.heap.size + 1 + 1 by simp] at h2
  exact ⟨((Blk.new w _ _).alloc _).alloc _, h2, h1.alloc _, (((Below.refl _ _).alloc (Nat.le_refl _) _).alloc (by simp) _).alloc (by simp; omega) _, by omega⟩
def ivBeg (k : Nat) : Nat → Iv := fun q => if q < k then ⟨q, -1, 0, false⟩ else ivZ
theorem ivBeg_succ (k : Nat) : upd (ivBeg k) k ⟨k, -1, 0, false⟩ = ivBeg (k + 1) := by
  funext q
  unfold upd ivBeg
  by_cases e : q = k
  · subst e; rw [if_pos rfl, if_pos (by omega)]
  · rw [if_neg e]
    by_cases e2 : q < k
    · rw [if_pos e2, if_pos (by omega)]
    · rw [if_neg e2, if_neg (by omega)]
theorem SoI.init {W wr : World} {gb b R m k : Nat} {cs : Array Value} (h : SoI W gb b R m cs (ivBeg k) wr) : SoI W gb b R m cs (ivBeg (k + 1)) (setIv wr R k ⟨k, -1, 0, false⟩) := by
  refine h.kp (setIv_kp (KpB.refl _ _)) ?_
  rw [← ivBeg_succ]
  exact setIv_blk h.row
theorem Reads.of_own_le {w w' : World} {base B n c : Nat} {A : Option Addr} {xs ys : List Value} {e : TypeId} (h : w'.ownsRow base e 1 (.slice A n c) n xs) (h0 : w.ownsRow B e 1 (.slice A n c) n ys) : Reads w' w.heap.size 1 A n xs := by
  refine ⟨h.1, fun hn => ?_⟩
  obtain ⟨g, cap, hv, _, hlt⟩ := h.form hn
  have hA : A = some ⟨g, 0, none⟩ := by injection hv
  subst hA
  exact ⟨_, rfl, (own_block_le h0 rfl).2, h.cells (g := g) rfl⟩
def SoPost (ns : List Nd) (ps l : List Int) (m : Nat) (w : World) (e : Ending) (w' : World) : Prop :=
  ∃ (R n : Nat) (G : Nat → Iv), e = .returned (.slice (some ⟨R, 0, none⟩) n m) ∧ w.heap.size ≤ R ∧ n = (spansL ns ps l m).length ∧ Blk w' R 42 (ivA m G) ∧ (∀ p, p < n → (spansL ns ps l m)[p]? = some (G p)) ∧ Below w.heap.size w w'
set_option maxRecDepth 100000 in
set_option maxHeartbeats 12800000 in
theorem spansOf_any (B : Nat) (po ko io no lA : Option Addr) (nP pc m kc nI ic n nc nl lc : Nat) (cells keep entry : Int) (res : Bool) (rn : List RN) (ps l : List Int) (O1 O2 b1 b2 : Nat) (vs1 vs2 : Nat → Value) (w : World)
    (hN : RdNs w B no n rn) (hP : Reads w B 1 po nP (i64c ps)) (hpl : ps.length = nP) (hpin : ∀ x ∈ ps, 0 ≤ x ∧ x < (m : Int)) (hp4 : nP ≤ 4) (hL : Reads w w.heap.size 1 lA nl (i64c l)) (hlin : ∀ x ∈ l, ∃ k : Nat, x = k ∧ k < n) (hll : l.length = nl) (hln : nl ≤ 4096) (h0 : 0 < nl)
    (h1 : RdL w b1 O1 n vs1 (liveL (nds rn) m)) (h2 : RdL w b2 O2 n vs2 (liveOL (nds rn) m)) (hB : B ≤ w.heap.size) (hn : n ≤ 4096) (hm : m ≤ 1024) (hwr : ∀ nd ∈ nds rn, ∀ x ∈ writesOf nd, 0 ≤ x ∧ x < (m : Int)) :
    Calls Tryd.prog 20 #[.agg #[.slice po nP pc, .slice ko m kc, .int .i64 cells, .slice io nI ic, .bool res, .int .i64 keep, .slice no n nc, .int .i64 entry], .slice lA nl lc, .slice (some ⟨O1, 0, none⟩) n n, .slice (some ⟨O2, 0, none⟩) n n] w (SoPost (nds rn) ps l m w) := by
  have hmk : ∀ W : World, (Instr.makeSlice 30 (.int .i64 m) (.int .i64 m)).run Tryd.prog W = .ok (.slice (some ⟨W.heap.size, 0, none⟩) m m) (W.alloc (.cells (ivA m fun _ => ⟨0, 0, 0, false⟩) 42)) := fun W => make_iv m (by omega) W
  have HN := Lib.hid hN
  have HP := Lib.hid hP
  have HPL := Lib.hid hpl
  have HPI := Lib.hid hpin
  have HL := Lib.hid hL
  have HLI := Lib.hid hlin
  have HLL := Lib.hid hll
  have H1 := Lib.hid h1
  have H2 := Lib.hid h2
  have HWR := Lib.hid hwr
  obtain ⟨cs, hcs⟩ : ∃ cs : Array Value, cs = #[.slice po nP pc, .slice ko m kc, .int .i64 cells, .slice io nI ic, .bool res, .int .i64 keep, .slice no n nc, .int .i64 entry] := ⟨_, rfl⟩
  have HS0 := Lib.hid (SoI.start w m cs)
  have HGC : Hid (∀ W, Blk W w.heap.size 38 cs → W.cell? ⟨w.heap.size, 0, none⟩ = some (.slice po nP pc) ∧ W.cell? ⟨w.heap.size, 6, none⟩ = some (.slice no n nc)) := Lib.hid fun W h => by
    rw [hcs] at h
    exact ⟨h.cell 0, h.cell 6⟩
  clear hN hP hpl hpin hL hlin hll h1 h2 hwr
  obtain ⟨W1, hW1⟩ : ∃ W1, W1 = (((w.alloc (.cells cs 38)).alloc (.cells (ivA m fun _ => ⟨0, 0, 0, false⟩) 42)).alloc (.cells #[.slice (some ⟨w.heap.size + 1, 0, none⟩) m m] 30)) := ⟨_, rfl⟩
  rw [← hW1] at HS0
  rw [hcs] at hW1
  go_enter Tryd.func20, Tryd.ntmps20
  go_upto_region 2 with fail
  rw [← hW1]
  clear hW1 hmk
  obtain ⟨R, hR⟩ : ∃ R, R = w.heap.size + 1 := ⟨_, rfl⟩
  obtain ⟨b, hbb⟩ : ∃ b, b = R + 1 := ⟨_, rfl⟩
  rw [← hR] at HS0 ⊢
  rw [← hbb] at HS0 ⊢
  clear hR hbb
  have x0 : W1.cell? ⟨b, 0, none⟩ = some (.slice (some ⟨R, 0, none⟩) m m) := HS0.out.box.cell 0
  go_wp2
  clear x0
  go_loopw [24] (fun s wr => ∃ k : Nat, k ≤ m ∧ s = .int .i64 k ∧ Hid (SoI w w.heap.size b R m cs (ivBeg k) wr)) (fun s _ => m - (intOf s).toNat)
  case atStart => exact ⟨0, by omega, rfl, Lib.hid (HS0.out.congr fun p _ => by unfold ivBeg; rw [if_neg (by omega)])⟩
  case round =>
    clear HS0
    obtain ⟨k, hk, rfl, HI⟩ := hrel
    have y0 : wr.cell? ⟨b, 0, none⟩ = some (.slice (some ⟨R, 0, none⟩) m m) := HI.out.box.cell 0
    by_cases hlt : k < m
    · have z0 : wr.cell? ⟨R, k * 4, none⟩ = some (ivX (ivBeg k k) 0) := by rw [HI.out.row.cell]; exact ivA_at (j := 0) _ hlt (by decide)
      have z1 : wr.cell? ⟨R, k * 4 + 1, none⟩ = some (ivX (ivBeg k k) 1) := by rw [HI.out.row.cell, ivA_at _ hlt (by decide)]
      have z2 : wr.cell? ⟨R, k * 4 + 2, none⟩ = some (ivX (ivBeg k k) 2) := by rw [HI.out.row.cell, ivA_at _ hlt (by decide)]
      have z3 : wr.cell? ⟨R, k * 4 + 3, none⟩ = some (ivX (ivBeg k k) 3) := by rw [HI.out.row.cell, ivA_at _ hlt (by decide)]
      have e0 : wr.frozen? ⟨R, k * 4, none⟩ = false := HI.out.row.frozen _
      have e1 : wr.frozen? ⟨R, k * 4 + 1, none⟩ = false := HI.out.row.frozen _
      have e2 : wr.frozen? ⟨R, k * 4 + 2, none⟩ = false := HI.out.row.frozen _
      have e3 : wr.frozen? ⟨R, k * 4 + 3, none⟩ = false := HI.out.row.frozen _
      go_wp2
      go_roundw
      case rel => exact ⟨k + 1, by omega, by go_num, Lib.hid HI.out.init⟩
      case measure => simp [intOf]; omega
    · obtain ⟨wo, hwo⟩ : ∃ wo, wo = wr := ⟨_, rfl⟩
      rw [← hwo] at HI y0 ⊢
      clear hwo
      have hkm : k = m := by omega
      rw [hkm] at HI
      have HB0 : Hid (SoI w w.heap.size b R m cs (fun p => ⟨p, -1, 0, false⟩) wo) := Lib.hid (HI.out.congr fun p hp => by unfold ivBeg; rw [if_pos hp])
      have hwoz := HB0.out.below.size
      have yp : wo.cell? ⟨w.heap.size, 0, none⟩ = some (.slice po nP pc) := (HGC.out wo HB0.out.gr).1
      have HRC := Lib.hid (record_any w.heap.size b R m 0 nP pc po (fun p => ⟨p, -1, 0, false⟩) ps wo HB0.out.box HB0.out.row (fun W hk => ((HP.out.below (HB0.out.below.mono hB)).below (hk.out B (by omega) (by have := HB0.out.lt; omega))).more hB) HPL.out HPI.out (by omega) (by omega))
      clear hkm hk HI
      go_wp2_with (go_at_call 35; refine HRC.out.mono ?_; rintro e w2 ⟨rfl, hr2, hk2⟩; have HI2 := Lib.hid (HB0.out.kp hk2 hr2); clear hr2 hk2)
      have HB2 : Hid (SoI w w.heap.size b R m cs (fun p => ivC (nds rn) ps l p 0) w2) := Lib.hid (HI2.out.congr fun p hp => (ivC_start _ _ _ p).symm)
      clear HRC HB0 yp y0 hwoz HI2
      go_loopw [40] (fun s wr => ∃ k : Nat, k ≤ nl ∧ s = .int .i64 k ∧ Hid (SoI w w.heap.size b R m cs (fun p => ivC (nds rn) ps l p k) wr)) (fun s _ => nl - (intOf s).toNat)
      case atStart => exact ⟨0, by omega, rfl, HB2⟩
      case round =>
        clear HB2
        obtain ⟨k, hk, rfl, HI⟩ := hrel
        by_cases hkl : k < nl
        · obtain ⟨bx, ox, x, hxe, hbx, HXX, x1⟩ := (HL.out.below HI.out.below).int hkl
          obtain ⟨i, rfl, hi⟩ := HLI.out x (List.mem_of_getElem? HXX.out)
          have hwz := HI.out.below.size
          have HAT : Hid (atL l k = i) := Lib.hid (by unfold atL; rw [List.getD_eq_getElem?_getD, HXX.out]; simp)
          obtain ⟨bn, on, nd, hno, hbn, HXI, HRN1, HWI, u0, u1, u2, u3, u4, u5, u6, u7, u8, u9, u10, u11⟩ := (HN.out.below (HI.out.below.mono hB)).nd hi
          have HXN : Hid ((nds rn)[i]? = some nd.nd) := Lib.hid (by unfold nds; rw [List.getElem?_map, HXI.out]; rfl)
          have hbnr : bn < wr.heap.size := by omega
          have y6 : wr.cell? ⟨w.heap.size, 6, none⟩ = some (.slice no n nc) := (HGC.out wr HI.out.gr).2
          rw [hno] at y6
          have hbA : Below wr.heap.size wr (wr.alloc (.cells #[.int .u8 nd.nd.op, .int .u8 nd.nd.bop, .int .i64 nd.nd.d, .int .i64 nd.nd.e, .int .i64 nd.nd.a, .int .i64 nd.nd.b, .int .i64 nd.nd.f, .int .i64 nd.nd.cell, .int .u64 nd.nd.imm, .slice nd.ao nd.nd.args.length nd.ac, .int .i64 nd.nd.next, .int .i64 nd.nd.els] 50)) := (Below.refl _ _).alloc (Nat.le_refl _) _
          have HBA := Lib.hid hbA
          have HNB := Lib.hid (Blk.new wr 50 #[.int .u8 nd.nd.op, .int .u8 nd.nd.bop, .int .i64 nd.nd.d, .int .i64 nd.nd.e, .int .i64 nd.nd.a, .int .i64 nd.nd.b, .int .i64 nd.nd.f, .int .i64 nd.nd.cell, .int .u64 nd.nd.imm, .slice nd.ao nd.nd.args.length nd.ac, .int .i64 nd.nd.next, .int .i64 nd.nd.els])
          obtain ⟨wA, hwA⟩ : ∃ wA, wA = wr.alloc (.cells #[.int .u8 nd.nd.op, .int .u8 nd.nd.bop, .int .i64 nd.nd.d, .int .i64 nd.nd.e, .int .i64 nd.nd.a, .int .i64 nd.nd.b, .int .i64 nd.nd.f, .int .i64 nd.nd.cell, .int .u64 nd.nd.imm, .slice nd.ao nd.nd.args.length nd.ac, .int .i64 nd.nd.next, .int .i64 nd.nd.els] 50) := ⟨_, rfl⟩
          rw [← hwA] at hbA HBA HNB
          have HIA := Lib.hid (HI.out.on hbA)
          have hAz := HIA.out.below.size
          have HWX := Lib.hid (writes_own B nd.nd.op nd.nd.bop nd.nd.d nd.nd.e nd.nd.a nd.nd.b nd.nd.f nd.nd.cell nd.nd.imm nd.nd.args nd.nd.next nd.nd.els nd.ao nd.nd.args.length nd.ac wA HWI.out.o0 HWI.out.o1 HWI.out.d HWI.out.e HWI.out.a HWI.out.b HWI.out.next HWI.out.els (HRN1.out.args.below (hbA.mono (by omega))) rfl HWI.out.args HWI.out.al HRN1.out.cap (by omega))
          obtain ⟨ws, hws⟩ : ∃ ws, ws = writesOf ⟨nd.nd.op, nd.nd.bop, nd.nd.d, nd.nd.e, nd.nd.a, nd.nd.b, nd.nd.f, nd.nd.cell, nd.nd.imm, nd.nd.args, nd.nd.next, nd.nd.els⟩ := ⟨_, rfl⟩
          rw [← hws] at HWX
          have HWS : Hid (ws = writesOf nd.nd) := Lib.hid hws
          have HWIN : Hid (∀ x ∈ ws, 0 ≤ x ∧ x < (m : Int)) := Lib.hid (by rw [HWS.out]; exact HWR.out _ (List.mem_of_getElem? HXN.out))
          have hw2 : ws.length ≤ 2 := by rw [hws]; exact llens _
          have v0 : wA.cell? ⟨wr.heap.size, 0, none⟩ = some (.int .u8 nd.nd.op) := HNB.out.cell 0
          have v1 : wA.cell? ⟨wr.heap.size, 1, none⟩ = some (.int .u8 nd.nd.bop) := HNB.out.cell 1
          have v2 : wA.cell? ⟨wr.heap.size, 2, none⟩ = some (.int .i64 nd.nd.d) := HNB.out.cell 2
          have v3 : wA.cell? ⟨wr.heap.size, 3, none⟩ = some (.int .i64 nd.nd.e) := HNB.out.cell 3
          have v4 : wA.cell? ⟨wr.heap.size, 4, none⟩ = some (.int .i64 nd.nd.a) := HNB.out.cell 4
          have v5 : wA.cell? ⟨wr.heap.size, 5, none⟩ = some (.int .i64 nd.nd.b) := HNB.out.cell 5
          have v6 : wA.cell? ⟨wr.heap.size, 6, none⟩ = some (.int .i64 nd.nd.f) := HNB.out.cell 6
          have v7 : wA.cell? ⟨wr.heap.size, 7, none⟩ = some (.int .i64 nd.nd.cell) := HNB.out.cell 7
          have v8 : wA.cell? ⟨wr.heap.size, 8, none⟩ = some (.int .u64 nd.nd.imm) := HNB.out.cell 8
          have v9 : wA.cell? ⟨wr.heap.size, 9, none⟩ = some (.slice nd.ao nd.nd.args.length nd.ac) := HNB.out.cell 9
          have v10 : wA.cell? ⟨wr.heap.size, 10, none⟩ = some (.int .i64 nd.nd.next) := HNB.out.cell 10
          have v11 : wA.cell? ⟨wr.heap.size, 11, none⟩ = some (.int .i64 nd.nd.els) := HNB.out.cell 11
          rw [hxe]
          clear hxe hws hbA hno
          obtain ⟨q, hq⟩ : ∃ q, q = wr.heap.size := ⟨_, rfl⟩
          go_upto_region 13 with fail
          rw [← hwA]
          rw [← hq] at HNB v0 v1 v2 v3 v4 v5 v6 v7 v8 v9 v10 v11 HBA hbnr ⊢
          clear hwA hq u0 u1 u2 u3 u4 u5 u6 u7 u8 u9 u10 u11 x1 y6 HI HRN1
          obtain ⟨A1, c1, hs1⟩ := own_slice (H1.out.own i hi)
          have HA1 : Hid (Reads w w.heap.size 1 A1 (liveL (nds rn) m i).length (i64c (liveL (nds rn) m i))) := Lib.hid (by
            have h := H1.out.own i hi
            rw [hs1] at h
            exact Reads.of_own h)
          obtain ⟨A2, c2, hs2⟩ := own_slice (H2.out.own i hi)
          have HA2 : Hid (Reads w w.heap.size 1 A2 (liveOL (nds rn) m i).length (i64c (liveOL (nds rn) m i))) := Lib.hid (by
            have h := H2.out.own i hi
            rw [hs2] at h
            exact Reads.of_own h)
          have HC1 : Hid (∀ W, Below w.heap.size w W → W.cell? ⟨O1, i, none⟩ = some (.slice A1 (liveL (nds rn) m i).length c1)) := Lib.hid fun W hb => by rw [(H1.out.on hb).row.cell, rowA_at _ hi, hs1]
          have HC2 : Hid (∀ W, Below w.heap.size w W → W.cell? ⟨O2, i, none⟩ = some (.slice A2 (liveOL (nds rn) m i).length c2)) := Lib.hid fun W hb => by rw [(H2.out.on hb).row.cell, rowA_at _ hi, hs2]
          have hla := liveL_max (nds rn) m i
          have hlo := liveOL_max (nds rn) m i
          clear hs1 hs2
          obtain ⟨la, hlae⟩ : ∃ la, la = liveL (nds rn) m i := ⟨_, rfl⟩
          obtain ⟨lo, hloe⟩ : ∃ lo, lo = liveOL (nds rn) m i := ⟨_, rfl⟩
          have HLAE := Lib.hid hlae
          have HLOE := Lib.hid hloe
          rw [← hlae] at HA1 HC1 hla
          rw [← hloe] at HA2 HC2 hlo
          obtain ⟨nla, hnla⟩ : ∃ n, n = la.length := ⟨_, rfl⟩
          obtain ⟨nlo, hnlo⟩ : ∃ n, n = lo.length := ⟨_, rfl⟩
          obtain ⟨nws, hnws⟩ : ∃ n, n = ws.length := ⟨_, rfl⟩
          rw [← hnla] at HA1 HC1 hla
          rw [← hnlo] at HA2 HC2 hlo
          have HNLA := Lib.hid hnla.symm
          have HNLO := Lib.hid hnlo.symm
          have HNWS := Lib.hid hnws.symm
          have HLAI : Hid (∀ x ∈ la, 0 ≤ x ∧ x < (m : Int)) := Lib.hid (by rw [hlae]; exact liveL_in)
          have HLOI : Hid (∀ x ∈ lo, 0 ≤ x ∧ x < (m : Int)) := Lib.hid (by rw [hloe]; exact liveOL_in)
          rw [← hnws] at hw2
          clear hlae hloe hnla hnlo hnws
          go_upto_region 16 with (first
            | (go_at_call 36; refine HWX.out.mono ?_; rintro e w3 ⟨A3, c3, rfl, ho3, hc3, hb3⟩; rw [HNWS.out] at ho3 hc3 ⊢; have HO3 := Lib.hid ho3; have HI3 := Lib.hid (HIA.out.on hb3); have HNB3 := Lib.hid (HNB.out.below hb3 HNB.out.lt); have t1 := HC1.out w3 HI3.out.below; have HR1 := Lib.hid (record_any w.heap.size b R m k nla c1 A1 (fun p => ivC (nds rn) ps l p k) la w3 HI3.out.box HI3.out.row (fun W hk => HA1.out.below (HI3.out.below.trans (hk.out w.heap.size HI3.out.below.size HI3.out.lt))) HNLA.out HLAI.out (by omega) (by omega)); have HZ3 : Hid (R < wA.heap.size) := Lib.hid HIA.out.row.lt; clear ho3 hb3)
            | (go_at_call 35; (with_reducible refine HR1.out.mono ?_); rintro e w4 ⟨rfl, hr4, hk4⟩; have HI4 := Lib.hid (HI3.out.kp hk4 hr4); have HNB4 := Lib.hid (hk4.blk HNB3.out (Blk.ne_ HNB3.out HI3.out.row (by decide))); have HO4 : Hid (w4.ownsRow wA.heap.size 3 1 (.slice A3 nws c3) nws (i64c ws)) := Lib.hid (own_kept HO3.out fun g hg => hk4.block g (own_block_le HO3.out hg).2 (by have := (own_block_le HO3.out hg).1; have := HZ3.out; omega)); have HOK : Hid (∀ W, KpB w4 W R → W.ownsRow wA.heap.size 3 1 (.slice A3 nws c3) nws (i64c ws)) := Lib.hid (fun W hk => own_kept HO4.out fun g hg => hk.block g (own_block_le HO4.out hg).2 (by have := (own_block_le HO4.out hg).1; have := HZ3.out; omega)); have HR2 := Lib.hid (record_any w4.heap.size b R m k nws c3 A3 _ ws w4 HI4.out.box HI4.out.row (fun W hk => (Reads.of_own_le (HOK.out W hk) HO4.out)) HNWS.out HWIN.out (by omega) (by omega)); clear hr4 hk4)
            | (go_at_call 35; (with_reducible refine HR2.out.mono ?_); rintro e w5 ⟨rfl, hr5, hk5⟩; have HI5 := Lib.hid (HI4.out.kp hk5 hr5); have HNB5 := Lib.hid (hk5.blk HNB4.out (Blk.ne_ HNB4.out HI4.out.row (by decide))); have HK5 := Lib.hid hk5; have s0 : w5.cell? ⟨q, 0, none⟩ = some (.int .u8 nd.nd.op) := HNB5.out.cell 0; have t2 := HC2.out w5 HI5.out.below; clear hr5 hk5))
          have HSTEP : Hid (∀ p, p < m → (if nd.nd.op = 11 ∨ nd.nd.op = 13 then helL lo ws (recL k ws (recL k la fun p => ivC (nds rn) ps l p k)) p else recL k ws (recL k la fun p => ivC (nds rn) ps l p k) p) = ivC (nds rn) ps l p (k + 1)) := Lib.hid fun p hp => by
            rw [HWS.out]
            refine ivC_step (by rw [HAT.out]; exact HXN.out) (by rw [HLL.out]; exact hkl) (fun p hp => ?_) (fun p hp => ?_) p hp
            · rw [HLAE.out, HAT.out]; exact liveN_mem p hp
            · rw [HLOE.out, HAT.out]; exact liveON_mem p hp
          clear HWX HIA HNB HC1 HR1 HR2 HI3 HI4 HNB3 HNB4 t1 v0 v1 v2 v3 v4 v5 v6 v7 v8 v9 v10 v11 HBA HA1
          by_cases hop : nd.nd.op = 11 ∨ nd.nd.op = 13
          · have HSY : Hid (∀ p, p < m → helL lo ws (recL k ws (recL k la fun p => ivC (nds rn) ps l p k)) p = ivC (nds rn) ps l p (k + 1)) := Lib.hid fun p hp => by
              have h := HSTEP.out p hp
              rw [if_pos hop] at h
              exact h
            have gop : (nd.nd.op != 11) = false ∨ (nd.nd.op != 11) = true ∧ (nd.nd.op != 13) = false := by
              rcases hop with h | h
              · exact .inl (by rw [h]; rfl)
              · exact .inr ⟨by rw [h]; rfl, by rw [h]; rfl⟩
            clear hop HSTEP
            rcases gop with g11 | ⟨g11, g13⟩
            all_goals
              go_wp2
              clear t2 s0
              go_loopw [76] (fun s wr => ∃ j : Nat, j ≤ nlo ∧ s = .int .i64 j ∧ Hid (SoI w w.heap.size b R m cs (helL (lo.take j) ws (recL k ws (recL k la fun p => ivC (nds rn) ps l p k))) wr) ∧ Hid (KpB w4 wr R)) (fun s _ => nlo - (intOf s).toNat)
              case atStart => exact ⟨0, by omega, rfl, by rw [List.take_zero, helL_nil]; exact HI5, HK5⟩
              case round =>
                clear HI5 HK5
                obtain ⟨j, hj, rfl, HI, HK⟩ := hrel
                by_cases hjl : j < nlo
                · obtain ⟨by2, oy, y, hye, hby, HYY, y1⟩ := (HA2.out.below HI.out.below).int hjl
                  obtain ⟨hy0, hy1⟩ := HLOI.out y (List.mem_of_getElem? HYY.out)
                  obtain ⟨z, rfl⟩ : ∃ z : Nat, y = (z : Int) := ⟨y.toNat, by omega⟩
                  have hzm : z < m := by omega
                  have HCT := Lib.hid (contains_eq w4.heap.size A3 nws c3 ws z wr (Reads.of_own_le (HOK.out wr HK.out) HO4.out) HNWS.out (by omega))
                  have HTK : Hid (lo.take (j + 1) = lo.take j ++ [(z : Int)]) := Lib.hid (take_at HYY.out)
                  rw [hye]
                  clear hye hy0 hy1
                  by_cases hzw : (z : Int) ∈ ws
                  · have HD : Hid (decide ((z : Int) ∈ ws) = true) := Lib.hid (decide_eq_true hzw)
                    have HSK : Hid (helL (lo.take (j + 1)) ws (recL k ws (recL k la fun p => ivC (nds rn) ps l p k)) = helL (lo.take j) ws (recL k ws (recL k la fun p => ivC (nds rn) ps l p k))) := Lib.hid (by rw [HTK.out, helL_skip hzw])
                    rw [HD.out] at HCT
                    clear hzw
                    go_wp2_with (go_at_call 37; refine HCT.out.mono ?_; rintro e w6 ⟨rfl, hw6⟩; rw [hw6]; clear hw6)
                    go_roundw
                    case rel => exact ⟨j + 1, by omega, by go_num, by rw [HSK.out]; exact HI, HK⟩
                    case measure => simp [intOf]; omega
                  · have HD : Hid (decide ((z : Int) ∈ ws) = false) := Lib.hid (decide_eq_false hzw)
                    obtain ⟨G, hG⟩ : ∃ G, G = helL (lo.take j) ws (recL k ws (recL k la fun p => ivC (nds rn) ps l p k)) := ⟨_, rfl⟩
                    have HSK : Hid (helL (lo.take (j + 1)) ws (recL k ws (recL k la fun p => ivC (nds rn) ps l p k)) = upd G z ⟨(G z).p, (G z).f, (G z).t, true⟩) := Lib.hid (by
                      rw [HTK.out, helL_add hzw, ← hG]
                      funext p
                      unfold upd
                      by_cases e : p = z
                      · subst e; simp
                      · rw [if_neg e, if_neg e])
                    rw [← hG] at HI
                    rw [HD.out] at HCT
                    have b0 : wr.cell? ⟨b, 0, none⟩ = some (.slice (some ⟨R, 0, none⟩) m m) := HI.out.box.cell 0
                    have r3 : wr.cell? ⟨R, z * 4 + 3, none⟩ = some (.bool (G z).h) := by rw [HI.out.row.cell, ivA_at _ hzm (by decide)]; rfl
                    have e3 : wr.frozen? ⟨R, z * 4 + 3, none⟩ = false := HI.out.row.frozen _
                    have HNW : Hid (SoI w w.heap.size b R m cs (upd G z ⟨(G z).p, (G z).f, (G z).t, true⟩) (wr.setCell ⟨R, z * 4 + 3, none⟩ (.bool true))) := Lib.hid (HI.out.kp ((KpB.refl _ _).set _ _) (by
                      have h := HI.out.row.set_ (z * 4 + 3) (.bool true)
                      rw [ivA_h] at h
                      exact h))
                    have HNK : Hid (KpB w4 (wr.setCell ⟨R, z * 4 + 3, none⟩ (.bool true)) R) := Lib.hid (HK.out.set _ _)
                    clear hzw hG
                    go_wp2_with (go_at_call 37; refine HCT.out.mono ?_; rintro e w6 ⟨rfl, hw6⟩; rw [hw6]; clear hw6)
                    go_roundw
                    case rel => exact ⟨j + 1, by omega, by go_num, by rw [HSK.out]; exact HNW, HNK⟩
                    case measure => simp [intOf]; omega
                · have hjn : j = nlo := by omega
                  have HFIN : Hid (SoI w w.heap.size b R m cs (fun p => ivC (nds rn) ps l p (k + 1)) wr) := Lib.hid (HI.out.congr fun p hp => by
                    rw [List.take_of_length_le (by rw [HNLO.out]; omega)]
                    exact HSY.out p hp)
                  go_wp2
                  go_roundw
                  case rel => exact ⟨k + 1, by omega, by go_num, HFIN⟩
                  case measure => simp [intOf]; omega
          · have HFIN : Hid (SoI w w.heap.size b R m cs (fun p => ivC (nds rn) ps l p (k + 1)) w5) := Lib.hid (HI5.out.congr fun p hp => by
              have h := HSTEP.out p hp
              rw [if_neg hop] at h
              exact h)
            have g11 : (nd.nd.op != 11) = true := by simp; omega
            have g13 : (nd.nd.op != 13) = true := by simp; omega
            clear hop HSTEP
            go_wp2
            go_roundw
            case rel => exact ⟨k + 1, by omega, by go_num, HFIN⟩
            case measure => simp [intOf]; omega
        · have hkn : k = nl := by omega
          rw [hkn] at HI
          have HE : Hid (SoI w w.heap.size b R m cs (fun p => ivK (nds rn) ps l (p : Int) l.length) wr) := Lib.hid (HI.out.congr fun p hp => by rw [← HLL.out]; exact ivC_end (by rw [HLL.out]; omega))
          have HDEL := Lib.hid (delete_iv R m (fun p => ivK (nds rn) ps l (p : Int) l.length) wr HE.out.row (by omega))
          have b0 : wr.cell? ⟨b, 0, none⟩ = some (.slice (some ⟨R, 0, none⟩) m m) := HI.out.box.cell 0
          go_wp2_with (go_at_call 38; refine HDEL.out.mono ?_; rintro e w6 ⟨nn, G, rfl, hnn, hg6, hp6, hk6⟩; have HNN := Lib.hid hnn; have HG6 := Lib.hid hg6; have HP6 := Lib.hid hp6; have HK6 := Lib.hid hk6; clear hnn hg6 hp6 hk6)
          go_ret
          rw [spans_kept] at HNN HP6
          exact ⟨R, nn, G, rfl, HE.out.lt, HNN.out, HG6.out, HP6.out, HE.out.below.trans (HK6.out.out w.heap.size HE.out.below.size HE.out.lt)⟩
end Go.Proofs.YtcljjacanomggaaDoor

/-
  Package order: Spans.
-/
namespace Go.Proofs.YtcljjacanomggaaDoor
set_option linter.unusedVariables false
set_option linter.unusedSimpArgs false
open Go.ChangeShapes Go.WideShapes Go.ChangeAt Go.RowKit

theorem LvPost.okO {L : List Nd → Nat → Nat → List Int} {gs : List Gr} {g : Gr} {k : Nat} {w w' : World} {e : Ending} (h : LvPost L gs k w e w') (hv : valid gs false) (hg : gs[k]? = some g) :
    Below w.heap.size w w' ∧ ∃ O vs, e = .returned (.tuple #[.slice (some ⟨O, 0, none⟩) g.nodes.length g.nodes.length, .int .i64 0]) ∧ w.heap.size ≤ O ∧ RdL w' w.heap.size O g.nodes.length vs (L g.nodes g.kinds.length) := by
  obtain ⟨hb, A, n, c, rfl, _, h0⟩ := h
  have hz : chkL gs k = 0 := by
    have := (List.getElem?_eq_some_iff.1 hg).1
    unfold chkL
    rw [if_pos hv, if_neg (by omega)]
  obtain ⟨O, vs, g2, h1, rfl, rfl, rfl, h2, h3⟩ := h0 hz
  rw [Int.toNat_natCast, hg] at h1
  injection h1 with h1
  subst h1
  exact ⟨hb, O, vs, by rw [hz], h2, h3⟩
theorem LnPost.ok {gs : List Gr} {g : Gr} {k : Nat} {w w' : World} {e : Ending} (h : LnPost gs k w e w') (hv : valid gs false) (hg : gs[k]? = some g) :
    Below w.heap.size w w' ∧ ∃ A c, e = .returned (.tuple #[.slice A (lineG g).length c, .int .i64 0]) ∧ w'.ownsRow w.heap.size 3 1 (.slice A (lineG g).length c) (lineG g).length (i64c (lineG g)) := by
  obtain ⟨hb, A, n, c, rfl, _, h0⟩ := h
  have hz : chkL gs k = 0 := by
    have := (List.getElem?_eq_some_iff.1 hg).1
    unfold chkL
    rw [if_pos hv, if_neg (by omega)]
  obtain ⟨g2, h1, rfl, h3⟩ := h0 hz
  rw [Int.toNat_natCast, hg] at h1
  injection h1 with h1
  subst h1
  exact ⟨hb, A, c, by rw [hz], h3⟩
theorem LnPost.bad {gs : List Gr} {f z : Int} {w w' : World} {e : Ending} (h : LnPost gs f w e w') (hz : chkL gs f = z) (h0 : z ≠ 0) : Below w.heap.size w w' ∧ e = .returned (.tuple #[.slice none 0 0, .int .i64 z]) := by
  obtain ⟨hb, A, n, c, rfl, h1, _⟩ := h
  obtain ⟨rfl, rfl, rfl⟩ := h1 (by rw [hz]; exact h0)
  exact ⟨hb, by rw [hz]⟩
noncomputable def spansG (g : Gr) : List Iv := spansL g.nodes g.params (lineG g) g.kinds.length
def SpPost (gs : List Gr) (f : Int) (w : World) (e : Ending) (w' : World) : Prop :=
  Below w.heap.size w w' ∧ ∃ (A : Option Addr) (n c : Nat), e = .returned (.tuple #[.slice A n c, .int .i64 (chkL gs f)]) ∧ (chkL gs f ≠ 0 → A = none ∧ n = 0 ∧ c = 0) ∧
    (chkL gs f = 0 → ∃ g R G, gs[f.toNat]? = some g ∧ A = some ⟨R, 0, none⟩ ∧ w.heap.size ≤ R ∧ c = g.kinds.length ∧ n = (spansG g).length ∧ Blk w' R 42 (ivA c G) ∧ ∀ p, p < n → (spansG g)[p]? = some (G p))
theorem SpPost.ok {gs : List Gr} {g : Gr} {k : Nat} {w w' : World} {e : Ending} (h : SpPost gs k w e w') (hv : valid gs false) (hg : gs[k]? = some g) :
    Below w.heap.size w w' ∧ ∃ R G, e = .returned (.tuple #[.slice (some ⟨R, 0, none⟩) (spansG g).length g.kinds.length, .int .i64 0]) ∧ w.heap.size ≤ R ∧ Blk w' R 42 (ivA g.kinds.length G) ∧ ∀ p, p < (spansG g).length → (spansG g)[p]? = some (G p) := by
  obtain ⟨hb, A, n, c, rfl, _, h0⟩ := h
  have hz : chkL gs k = 0 := by
    have := (List.getElem?_eq_some_iff.1 hg).1
    unfold chkL
    rw [if_pos hv, if_neg (by omega)]
  obtain ⟨g2, R, G, h1, rfl, h2, rfl, rfl, h3, h4⟩ := h0 hz
  rw [Int.toNat_natCast, hg] at h1
  injection h1 with h1
  subst h1
  exact ⟨hb, R, G, by rw [hz], h2, h3, h4⟩
theorem SpPost.bad {gs : List Gr} {f z : Int} {w w' : World} {e : Ending} (h : SpPost gs f w e w') (hz : chkL gs f = z) (h0 : z ≠ 0) : Below w.heap.size w w' ∧ e = .returned (.tuple #[.slice none 0 0, .int .i64 z]) := by
  obtain ⟨hb, A, n, c, rfl, h1, _⟩ := h
  obtain ⟨rfl, rfl, rfl⟩ := h1 (by rw [hz]; exact h0)
  exact ⟨hb, by rw [hz]⟩
theorem chk_ok {gs : List Gr} {k : Nat} (hv : valid gs false) (hk : k < gs.length) : chkL gs k = 0 := by
  unfold chkL
  rw [if_pos hv, if_neg (by omega)]
theorem lineG_in {gs : List Gr} {g : Gr} (h : valid gs false) (hg : g ∈ gs) : (∀ x ∈ lineG g, ∃ k : Nat, x = k ∧ k < g.nodes.length) ∧ (lineG g).length ≤ 4096 ∧ 0 < (lineG g).length := by
  have h1 := lineG_ok h hg
  have h2 := valid_sizes h hg
  obtain ⟨r, hr⟩ := h1.first
  have h3 := h1.len
  have h4 : 0 < (lineG g).length := by rw [hr]; simp
  exact ⟨h1.nat, by omega, h4⟩
set_option maxRecDepth 100000 in
set_option maxHeartbeats 6400000 in
theorem spans_any (B : Nat) (fo : Option Addr) (nF cF : Nat) (rs : List RG) (f : Int) (w : World) (h : RdP w B fo nF rs) (hB : B ≤ w.heap.size) (hT : TzTab w) :
    Calls Tryd.prog 8 #[.agg #[.slice fo nF cF], .int .i64 f] w (SpPost (grs rs) f w) := by
  have HBL : Hid (Below w.heap.size w (w.alloc (.cells #[.slice fo nF cF] 24))) := (Below.refl _ _).alloc (Nat.le_refl _) _
  have HG0 := Lib.hid (Blk.new w 24 #[.slice fo nF cF])
  have HZ1 : Hid ((w.alloc (.cells #[.slice fo nF cF] 24)).heap.size = w.heap.size + 1) := Lib.hid (by simp)
  have HLN := Lib.hid (line_any B fo nF cF rs f (w.alloc (.cells #[.slice fo nF cF] 24)) (h.below (HBL.out.mono hB)) (by simp; omega))
  have HG : Hid (∀ W, Below (w.heap.size + 1) (w.alloc (.cells #[.slice fo nF cF] 24)) W → W.cell? ⟨w.heap.size, 0, none⟩ = some (.slice fo nF cF)) := Lib.hid fun W hb => (HG0.out.below hb (by omega)).cell 0
  have H := Lib.hid h
  have HT := Lib.hid hT
  clear h hT
  obtain ⟨z, hz⟩ : ∃ z, z = chkL (grs rs) f := ⟨_, rfl⟩
  have HZ := Lib.hid hz
  by_cases h0 : z = 0
  · subst h0
    obtain ⟨hv, k, rfl, hk⟩ := chk_zero hz.symm
    have hkF : k < nF := by rw [length_grs, H.out.len] at hk; exact hk
    obtain ⟨b, off, r, hfe, hb, HX, HRG, HWG, x0, x1, x2, x3, x4, x5, x6, x7⟩ := H.out.gr hkF
    have HXG : Hid ((grs rs)[k]? = some r.gr) := Lib.hid (by unfold grs; rw [List.getElem?_map, HX.out]; rfl)
    have hmem : r.gr ∈ grs rs := List.mem_of_getElem? HXG.out
    have hsz := valid_sizes hv hmem
    have hwin := valid_writes hv hmem
    have hpin := valid_params hv hmem
    have hlin := lineG_in hv hmem
    rw [← HRG.out.nd] at hwin
    have HIN : Hid (∀ W, Below w.heap.size w W → Calls Tryd.prog 18 #[.agg #[.slice fo nF cF], .int .i64 k] W (LvPost liveL (grs rs) k W)) := Lib.hid fun W hb => in_live B fo nF cF rs k W (H.out.below (hb.mono hB)) (by have := hb.size; omega) (HT.out.below hb)
    have HOU : Hid (∀ W, Below w.heap.size w W → Calls Tryd.prog 19 #[.agg #[.slice fo nF cF], .int .i64 k] W (LvPost liveOL (grs rs) k W)) := Lib.hid fun W hb => out_live B fo nF cF rs k W (H.out.below (hb.mono hB)) (by have := hb.size; omega) (HT.out.below hb)
    have HSO : Hid (∀ (lA : Option Addr) (lc O1 O2 b1 b2 : Nat) (vs1 vs2 : Nat → Value) (W : World), Below w.heap.size w W → Reads W W.heap.size 1 lA (lineG r.gr).length (i64c (lineG r.gr)) → RdL W b1 O1 r.gr.nodes.length vs1 (liveL r.gr.nodes r.gr.kinds.length) → RdL W b2 O2 r.gr.nodes.length vs2 (liveOL r.gr.nodes r.gr.kinds.length) →
        Calls Tryd.prog 20 #[.agg #[.slice r.po r.gr.params.length r.pc, .slice r.ko r.gr.kinds.length r.kc, .int .i64 r.gr.cells, .slice r.io r.gr.init.length r.ic, .bool r.gr.result, .int .i64 r.gr.keep, .slice r.no r.gr.nodes.length r.nc, .int .i64 r.gr.entry], .slice lA (lineG r.gr).length lc, .slice (some ⟨O1, 0, none⟩) r.gr.nodes.length r.gr.nodes.length, .slice (some ⟨O2, 0, none⟩) r.gr.nodes.length r.gr.nodes.length] W (SoPost r.gr.nodes r.gr.params (lineG r.gr) r.gr.kinds.length W)) := Lib.hid fun lA lc O1 O2 b1 b2 vs1 vs2 W hbw hL h1 h2 => by
      rw [← HRG.out.nd] at h1 h2 ⊢
      have hnl : (nds r.ns).length = r.gr.nodes.length := by rw [HRG.out.nd]
      rw [hnl] at h1 h2
      rw [hnl]
      exact spansOf_any B r.po r.ko r.io r.no lA r.gr.params.length r.pc r.gr.kinds.length r.kc r.gr.init.length r.ic r.gr.nodes.length r.nc (lineG r.gr).length lc r.gr.cells r.gr.keep r.gr.entry r.gr.result r.ns r.gr.params (lineG r.gr) O1 O2 b1 b2 vs1 vs2 W (HRG.out.nodes.below (hbw.mono hB)) (HRG.out.params.below (hbw.mono hB)) rfl hpin.1 hpin.2 hL hlin.1 rfl hlin.2.1 hlin.2.2 h1 h2 (by have := hbw.size; omega) hsz.2 hsz.1 hwin
    have HV := Lib.hid hv
    have HCE : Hid (∀ W, Below w.heap.size w W → W.cell? ⟨b, off + k * 8, none⟩ = some (.slice r.po r.gr.params.length r.pc) ∧ W.cell? ⟨b, off + k * 8 + 1, none⟩ = some (.slice r.ko r.gr.kinds.length r.kc) ∧ W.cell? ⟨b, off + k * 8 + 2, none⟩ = some (.int .i64 r.gr.cells) ∧ W.cell? ⟨b, off + k * 8 + 3, none⟩ = some (.slice r.io r.gr.init.length r.ic) ∧ W.cell? ⟨b, off + k * 8 + 4, none⟩ = some (.bool r.gr.result) ∧ W.cell? ⟨b, off + k * 8 + 5, none⟩ = some (.int .i64 r.gr.keep) ∧ W.cell? ⟨b, off + k * 8 + 6, none⟩ = some (.slice r.no r.gr.nodes.length r.nc) ∧ W.cell? ⟨b, off + k * 8 + 7, none⟩ = some (.int .i64 r.gr.entry)) := Lib.hid fun W hbw => ⟨(hbw.cell (p := ⟨b, _, none⟩) (by show b < _; omega)).trans x0, (hbw.cell (p := ⟨b, _, none⟩) (by show b < _; omega)).trans x1, (hbw.cell (p := ⟨b, _, none⟩) (by show b < _; omega)).trans x2, (hbw.cell (p := ⟨b, _, none⟩) (by show b < _; omega)).trans x3, (hbw.cell (p := ⟨b, _, none⟩) (by show b < _; omega)).trans x4, (hbw.cell (p := ⟨b, _, none⟩) (by show b < _; omega)).trans x5, (hbw.cell (p := ⟨b, _, none⟩) (by show b < _; omega)).trans x6, (hbw.cell (p := ⟨b, _, none⟩) (by show b < _; omega)).trans x7⟩
    rw [hfe] at HG0 HBL HLN HIN HOU HG HZ1 H ⊢
    clear hfe x0 x1 x2 x3 x4 x5 x6 x7 hsz hwin hpin hlin hv hmem hk hz
    go_enter Tryd.func8, Tryd.ntmps8
    go_wp2_with (first
      | (go_at_call 7; refine HLN.out.mono ?_; rintro e w1 hl; obtain ⟨hb1, A1, c1, rfl, ho1⟩ := hl.ok HV.out HXG.out; rw [HZ1.out] at hb1; have HB1 := Lib.hid hb1; have HW1 := Lib.hid (HBL.out.trans (hb1.mono (by omega))); have HO1 := Lib.hid ho1; have y1 := HG.out _ hb1; clear hl hb1 ho1)
      | (go_at_call 18; refine (HIN.out _ HW1.out).mono ?_; rintro e w2 hl; obtain ⟨hb2, O2, vs2, rfl, hO2, hr2⟩ := hl.okO HV.out HXG.out; have hb2' := HB1.out.trans (hb2.mono (by have := HB1.out.size; rw [HZ1.out] at this; exact this)); have HB2 := Lib.hid hb2'; have HW2 := Lib.hid (HW1.out.trans (hb2.mono HW1.out.size)); have HR2 := Lib.hid hr2; have HO2 := Lib.hid (own_kept HO1.out fun g hg => hb2.block g (own_block_le HO1.out hg).2); have y2 := HG.out _ hb2'; clear hl hb2 hb2' hr2)
      | (go_at_call 19; refine (HOU.out _ HW2.out).mono ?_; rintro e w3 hl; obtain ⟨hb3, O3, vs3, rfl, hO3, hr3⟩ := hl.okO HV.out HXG.out; have hb3' := HB2.out.trans (hb3.mono (by have := HB2.out.size; rw [HZ1.out] at this; exact this)); have HB3 := Lib.hid hb3'; have HW3 := Lib.hid (HW2.out.trans (hb3.mono HW2.out.size)); have HR3 := Lib.hid hr3; have HR2c := Lib.hid (HR2.out.on hb3); have HO3 := Lib.hid (own_kept HO2.out fun g hg => hb3.block g (own_block_le HO2.out hg).2); have y3 := HG.out _ hb3'; obtain ⟨q0, q1, q2, q3, q4, q5, q6, q7⟩ := HCE.out _ HW3.out; clear hl hb3 hb3' hr3)
      | (go_at_call 20; refine (HSO.out A1 c1 O2 O3 _ _ vs2 vs3 w3 HW3.out (Reads.of_own HO3.out) HR2c.out HR3.out).mono ?_; rintro e w4 ⟨R, nn, G, rfl, hR4, hn4, hb4, hp4, hbl4⟩; have HW4 := Lib.hid (HW3.out.trans (hbl4.mono HW3.out.size)); have HB4 := Lib.hid hb4; have HP4 := Lib.hid hp4; have HN4 := Lib.hid hn4; have HR4 : Hid (w.heap.size ≤ R) := Lib.hid (Nat.le_trans HW3.out.size hR4); clear hR4 hn4 hb4 hp4 hbl4))
    go_ret2
    exact ⟨HW4.out, some ⟨R, 0, none⟩, nn, r.gr.kinds.length, by rw [← HZ.out]; rfl, fun h => absurd HZ.out.symm h, fun _ => ⟨r.gr, R, G, by rw [Int.toNat_natCast]; exact HXG.out, rfl, HR4.out, rfl, HN4.out, HB4.out, HP4.out⟩⟩
  · have g1 : (z != 0) = true := by simpa using h0
    have H0 := Lib.hid h0
    clear h0 hz
    go_enter Tryd.func8, Tryd.ntmps8
    go_wp2_with (go_at_call 7; refine HLN.out.mono ?_; rintro e w1 hl; obtain ⟨hb1, rfl⟩ := hl.bad HZ.out.symm H0.out; rw [HZ1.out] at hb1; have HW1 := Lib.hid (HBL.out.trans (hb1.mono (by omega))); clear hl hb1)
    go_ret2
    exact ⟨HW1.out, none, 0, 0, by rw [← HZ.out]; rfl, fun _ => ⟨rfl, rfl, rfl⟩, fun h => absurd (HZ.out.trans h) H0.out⟩
end Go.Proofs.YtcljjacanomggaaDoor

/-
  What must be answered ahead of everything else: three nodes, the last one in between.
-/
namespace Go.Proofs.YtcljjacanomggaaDoor
set_option linter.unusedVariables false
set_option linter.unusedSimpArgs false
open Go.ChangeShapes Go.WideShapes Go.ChangeAt Go.RowKit

def on0 : Nd := ⟨1, 0, 0, 0, 0, 0, 0, 0, 0, [], 2, 0⟩
def on1 : Nd := ⟨12, 0, 0, 0, -1, 0, 0, 0, 0, [], 0, 0⟩
def on2 : Nd := ⟨17, 0, 0, 0, 0, 0, 0, 0, 0, [], 1, 0⟩
def ogr : Gr := ⟨[], [0], 0, [], false, -1, [on0, on1, on2], 0⟩
def org (z : Nat) : RG := ⟨ogr, none, 0, some ⟨z, 0, none⟩, 1, none, 0, some ⟨z + 1, 0, none⟩, 3, [⟨on0, none, 0⟩, ⟨on1, none, 0⟩, ⟨on2, none, 0⟩]⟩
theorem ovalid : valid [ogr] false := by decide +kernel
theorem owfn (n : Nd) (h : n ∈ [on0, on1, on2]) : WfN n := by
  simp at h
  rcases h with rfl | rfl | rfl <;> exact ⟨by decide, by decide, by decide, by decide, ⟨by decide, by decide⟩, ⟨by decide, by decide⟩, ⟨by decide, by decide⟩, ⟨by decide, by decide⟩, ⟨by decide, by decide⟩, ⟨by decide, by decide⟩, by decide, by decide, (fun x h => by cases h), ⟨by decide, by decide⟩, ⟨by decide, by decide⟩, by decide⟩
theorem owfg : WfG ogr := ⟨(fun x h => by cases h), (fun x h => by simp [ogr] at h; subst h; exact ⟨by decide, by decide⟩), ⟨by decide, by decide⟩, (fun x h => by cases h), ⟨by decide, by decide⟩, (fun i hi => owfn i hi), ⟨by decide, by decide⟩, by decide, by decide, by decide, by decide⟩
def ocK : Array Value := #[.int .u8 0]
def ocN : Array Value := #[.int .u8 1, .int .u8 0, .int .i64 0, .int .i64 0, .int .i64 0, .int .i64 0, .int .i64 0, .int .i64 0, .int .u64 0, .slice none 0 0, .int .i64 2, .int .i64 0, .int .u8 12, .int .u8 0, .int .i64 0, .int .i64 0, .int .i64 (-1), .int .i64 0, .int .i64 0, .int .i64 0, .int .u64 0, .slice none 0 0, .int .i64 0, .int .i64 0, .int .u8 17, .int .u8 0, .int .i64 0, .int .i64 0, .int .i64 0, .int .i64 0, .int .i64 0, .int .i64 0, .int .u64 0, .slice none 0 0, .int .i64 1, .int .i64 0]
def ocG (z : Nat) : Array Value := #[.slice none 0 0, .slice (some ⟨z, 0, none⟩) 1 1, .int .i64 0, .slice none 0 0, .bool false, .int .i64 (-1), .slice (some ⟨z + 1, 0, none⟩) 3 3, .int .i64 0]
theorem blk_readsO {w : World} {g n size B : Nat} {t : TypeId} {cs : Array Value} (h : Blk w g t cs) (hs : cs.size = n * size) (hB : g < B) : Reads w B size (some ⟨g, 0, none⟩) n cs.toList :=
  ⟨by simpa using hs, fun _ => ⟨_, rfl, hB, fun j u hj => by
    have ea : (⟨g, 0, none⟩ : Addr).add j = ⟨g, j, none⟩ := by simp [Addr.add]; exact Eq.symm
    rw [ea, h.cell]
    simpa using hj⟩⟩
theorem ord_ {W : World} {z : Nat} (hK : Blk W z 53 ocK) (hN : Blk W (z + 1) 50 ocN) (hG : Blk W (z + 2) 38 (ocG z)) : RdP W (z + 3) (some ⟨z + 2, 0, none⟩) 1 [org z] := by
  refine ⟨blk_readsO (size := 8) hG rfl (by omega), rfl, fun r hr => ?_, fun r hr => ?_, by omega⟩
  · obtain rfl : r = org z := by simpa using hr
    refine ⟨Reads.none_, blk_readsO (size := 1) (n := 1) hK rfl (by omega), Reads.none_, ⟨blk_readsO (size := 12) (n := 3) hN rfl (by omega), rfl, fun i hi => ?_, fun i hi => ?_⟩, rfl, Nat.le_refl _⟩
    · simp [org] at hi
      rcases hi with rfl | rfl | rfl <;> exact ⟨Reads.none_, Nat.le_refl _⟩
    · simp [org] at hi
      rcases hi with rfl | rfl | rfl
      · exact owfn _ (by simp)
      · exact owfn _ (by simp)
      · exact owfn _ (by simp)
  · obtain rfl : r = org z := by simpa using hr
    exact owfg
theorem oline : lineG ogr = [0, 2, 1] := by decide +kernel
theorem ow0 : WorkP ogr.nodes ogr.params [0, 2, 1] (0 : Int) 0 := .inl (.inr ⟨on0, rfl, by decide⟩)
theorem ow1 : WorkP ogr.nodes ogr.params [0, 2, 1] (0 : Int) 1 := .inl (.inl (.here (n := on2) rfl (by decide)))
theorem ow2 : ¬ WorkP ogr.nodes ogr.params [0, 2, 1] (0 : Int) 2 := by
  rintro (h | h)
  · rcases h with h | ⟨n, h, h2⟩
    · cases h with
      | here h hr =>
        obtain rfl : on1 = _ := by simpa [ogr, atL] using h
        exact absurd hr (by decide)
      | next h _ hj _ =>
        obtain rfl : on1 = _ := by simpa [ogr, atL] using h
        exact absurd hj (by simp [nextsOf, on1])
    · obtain rfl : on1 = _ := by simpa [ogr, atL] using h
      exact absurd h2 (by decide)
  · exact absurd h.1 (by decide)
theorem oh (i : Nat) : ¬ HeldN ogr.nodes (0 : Int) i := by
  rintro ⟨n, h, h2, _⟩
  have hm := List.mem_of_getElem? h
  simp [ogr] at hm
  rcases hm with rfl | rfl | rfl <;> simp [on0, on1, on2] at h2
theorem ospans : spansG ogr = [⟨0, 0, 1, false⟩] := by
  unfold spansG
  rw [oline]
  show spansL ogr.nodes ogr.params [0, 2, 1] 1 = _
  rw [spansL_succ]
  have e : ivK ogr.nodes ogr.params [0, 2, 1] ((0 : Nat) : Int) ([0, 2, 1] : List Int).length = ⟨0, 0, 1, false⟩ := by
    show ivK ogr.nodes ogr.params [0, 2, 1] (0 : Int) 3 = _
    rw [ivK_no ow2, ivK_yes ow1, ivK_yes ow0]
    simp [oh, ivK]
  rw [e]
  rfl
set_option maxRecDepth 100000 in
set_option maxHeartbeats 3200000 in
theorem ofirst_any (w : World) (hT : TzTab w) : Calls Tryd.prog 6 #[] w fun e w' => e = .returned (.bool true) ∧ Below w.heap.size w w' := by
  obtain ⟨W, hW⟩ : ∃ W, W = ((((w.alloc (.cells ocK 53)).alloc (.cells ocN 50)).alloc (.cells (ocG w.heap.size) 38)).alloc (.cells #[.slice (some ⟨w.heap.size + 1 + 1, 0, none⟩) 1 1] 24)) := ⟨_, rfl⟩
  have hz : W.heap.size = w.heap.size + 4 := by rw [hW]; simp
  have hbw : Below w.heap.size w W := by
    rw [hW]
    exact ((((Below.refl _ _).alloc (Nat.le_refl _) _).alloc (by simp) _).alloc (by simp; omega) _).alloc (by simp; omega) _
  have b0 : Blk W w.heap.size 53 ocK := by
    rw [hW]
    exact (((Blk.new w _ _).alloc _).alloc _).alloc _
  have b1 : Blk W (w.heap.size + 1) 50 ocN := by
    have h := Blk.new (w.alloc (.cells ocK 53)) 50 ocN
    rw [show (w.alloc (.cells ocK 53)).heap.size = w.heap.size + 1 by simp] at h
    rw [hW]
    exact (h.alloc _).alloc _
  have b2 : Blk W (w.heap.size + 2) 38 (ocG w.heap.size) := by
    have h := Blk.new ((w.alloc (.cells ocK 53)).alloc (.cells ocN 50)) 38 (ocG w.heap.size)
    rw [show ((w.alloc (.cells ocK 53)).alloc (.cells ocN 50)).heap.size = w.heap.size + 2 by simp] at h
    rw [hW]
    exact h.alloc _
  have b3 : Blk W (w.heap.size + 1 + 1 + 1) 24 #[.slice (some ⟨w.heap.size + 1 + 1, 0, none⟩) 1 1] := by
    have h := Blk.new (((w.alloc (.cells ocK 53)).alloc (.cells ocN 50)).alloc (.cells (ocG w.heap.size) 38)) 24 #[.slice (some ⟨w.heap.size + 1 + 1, 0, none⟩) 1 1]
    rw [show (((w.alloc (.cells ocK 53)).alloc (.cells ocN 50)).alloc (.cells (ocG w.heap.size) 38)).heap.size = w.heap.size + 1 + 1 + 1 by simp] at h
    rw [hW]
    exact h
  have HRD := Lib.hid (ord_ b0 b1 b2)
  have HB3 := Lib.hid b3
  have HBW := Lib.hid hbw
  have HZ := Lib.hid hz
  have HT := Lib.hid hT
  have HLN := Lib.hid (line_any (w.heap.size + 3) (some ⟨w.heap.size + 1 + 1, 0, none⟩) 1 1 [org w.heap.size] 0 W HRD.out (by omega))
  have HSP : Hid (∀ W2, Below W.heap.size W W2 → Calls Tryd.prog 8 #[.agg #[.slice (some ⟨w.heap.size + 1 + 1, 0, none⟩) 1 1], .int .i64 0] W2 (SpPost [ogr] 0 W2)) := Lib.hid fun W2 hb => spans_any (w.heap.size + 3) (some ⟨w.heap.size + 1 + 1, 0, none⟩) 1 1 [org w.heap.size] 0 W2 (HRD.out.below (hb.mono (by omega))) (by have := hb.size; omega) ((HT.out.below HBW.out).below hb)
  have z0 : W.cell? ⟨w.heap.size + 1 + 1 + 1, 0, none⟩ = some (.slice (some ⟨w.heap.size + 1 + 1, 0, none⟩) 1 1) := b3.cell 0
  clear b0 b1 b2 b3 hbw hz hT
  go_enter Tryd.func6, Tryd.ntmps6
  go_upto_region 2 with fail
  unfold ocK ocN ocG at hW
  rw [← hW]
  clear hW
  obtain ⟨p2, hp2⟩ : ∃ p, p = w.heap.size + 1 + 1 := ⟨_, rfl⟩
  obtain ⟨p3, hp3⟩ : ∃ p, p = p2 + 1 := ⟨_, rfl⟩
  rw [← hp2] at HLN HSP HB3 z0 ⊢
  rw [← hp3] at HB3 z0 ⊢
  clear hp2 hp3
  go_wp2_with (first
    | (go_at_call 7; refine HLN.out.mono ?_; rintro e w2 hl; obtain ⟨hb2, A, c, rfl, ho2⟩ := LnPost.ok (k := 0) (g := ogr) hl ovalid rfl; rw [oline] at ho2 ⊢; have HO2 := Lib.hid ho2; have HB2 := Lib.hid hb2; have z2 : w2.cell? ⟨p3, 0, none⟩ = some (.slice (some ⟨p2, 0, none⟩) 1 1) := (HB3.out.below hb2 HB3.out.lt).cell 0; clear hb2 ho2 hl)
    | (go_at_call 8; refine (HSP.out _ HB2.out).mono ?_; rintro e w3 hl; obtain ⟨hb3, R, G, rfl, hR, hr3, hg3⟩ := SpPost.ok (k := 0) (g := ogr) hl ovalid rfl; rw [ospans] at hg3 ⊢; obtain ⟨bl, ol, xl, hxe, hbl, HXX, x1⟩ := (Reads.of_own (own_kept HO2.out fun g hg => hb3.block g (own_block_le HO2.out hg).2)).int (k := 1) (by decide); obtain rfl : (2 : Int) = xl := by simpa using HXX.out
       have hG : (⟨0, 0, 1, false⟩ : Iv) = G 0 := by simpa using hg3 0 (by decide)
       have r0 : w3.cell? ⟨R, 0, none⟩ = some (.int .i64 0) := by rw [hr3.cell]; have h := ivA_at (m := 1) (p := 0) (j := 0) G (by decide) (by decide); rw [← hG] at h; exact h
       have r1 : w3.cell? ⟨R, 1, none⟩ = some (.int .i64 0) := by rw [hr3.cell]; have h := ivA_at (m := 1) (p := 0) (j := 1) G (by decide) (by decide); rw [← hG] at h; exact h
       have r2 : w3.cell? ⟨R, 2, none⟩ = some (.int .i64 1) := by rw [hr3.cell]; have h := ivA_at (m := 1) (p := 0) (j := 2) G (by decide) (by decide); rw [← hG] at h; exact h
       have r3 : w3.cell? ⟨R, 3, none⟩ = some (.bool false) := by rw [hr3.cell]; have h := ivA_at (m := 1) (p := 0) (j := 3) G (by decide) (by decide); rw [← hG] at h; exact h
       rw [hxe]
       have HB5 := Lib.hid hb3; clear hb3 hr3 hl hG hg3 hxe))
  go_ret
  exact ⟨rfl, HBW.out.trans ((HB2.out.trans (HB5.out.mono HB2.out.size)).mono (by rw [HZ.out]; omega))⟩
end Go.Proofs.YtcljjacanomggaaDoor

/-
  The document's lists of places: In, add.
-/
namespace Go.Proofs.YtcljjacanomggaaDoor
set_option linter.unusedVariables false
set_option linter.unusedSimpArgs false
open Go.ChangeShapes Go.WideShapes Go.ChangeAt Go.RowKit

set_option maxHeartbeats 1600000 in
theorem in_any (B : Nat) (A : Option Addr) (n c : Nat) (l : List Int) (x : Int) (w : World) (h : Reads w B 1 A n (i64c l)) (hn : l.length = n) (hnb : n ≤ 140737488351232) :
    Calls Tryd.prog 15 #[.slice A n c, .int .i64 x] w fun e w' => e = .returned (.bool (decide (x ∈ l))) ∧ w' = w := by
  have H := Lib.hid h
  have HN := Lib.hid hn
  clear h hn
  go_enter Tryd.func15, Tryd.ntmps15
  go_wp2
  go_loopw [9] (fun i wr => ∃ k : Nat, k ≤ n ∧ i = .int .i64 k ∧ Hid (x ∉ l.take k) ∧ wr = w) (fun i _ => n - (intOf i).toNat)
  case atStart => exact ⟨0, Nat.zero_le _, rfl, Lib.hid (by simp), rfl⟩
  case round =>
    obtain ⟨k, hk, rfl, HP, rfl⟩ := hrel
    by_cases hlt : k < n
    · obtain ⟨b, off, y, rfl, hb, HX, x1⟩ := H.out.int hlt
      by_cases hxy : y = x
      · have hd : (y == x) = true := by simpa using hxy
        have HR : Hid (decide (x ∈ l) = true) := Lib.hid (by rw [decide_eq_true_eq, ← hxy]; exact List.mem_of_getElem? HX.out)
        clear hxy
        go_wp2
        go_ret
        exact ⟨by rw [HR.out]; rfl, rfl⟩
      · have hd : (y == x) = false := by simpa using hxy
        have HQ : Hid (x ∉ l.take (k + 1)) := Lib.hid (by
          rw [take_at HX.out]
          simp only [List.mem_append, List.mem_singleton, not_or]
          exact ⟨HP.out, fun e => hxy e.symm⟩)
        clear hxy
        go_wp2
        go_roundw
        case rel => exact ⟨k + 1, by omega, by go_num, HQ, by first | rfl | trivial⟩
        case measure => simp [intOf]; omega
    · obtain rfl : n = k := by omega
      have HR : Hid (decide (x ∈ l) = false) := Lib.hid (by
        have h := HP.out
        rw [List.take_of_length_le (by rw [HN.out]; omega)] at h
        simpa using h)
      go_wp2
      go_ret
      exact ⟨by rw [HR.out]; rfl, rfl⟩

structure RaI (w : World) (zs : List Int) (k : Nat) (v : Value) (wr : World) : Prop where
  own : wr.ownsRow w.heap.size 3 1 v (addL [] (zs.take k)).length (i64c (addL [] (zs.take k)))
  below : Below w.heap.size w wr

set_option maxRecDepth 100000 in
set_option maxHeartbeats 1600000 in
theorem radd_any (B : Nat) (A : Option Addr) (n c : Nat) (zs : List Int) (w : World) (h : Reads w B 1 A n (i64c zs)) (hn : zs.length = n) (hz : ∀ x ∈ zs, I64 x) (hB : B ≤ w.heap.size) (hnb : n * 8 ≤ 140737488351232) :
    Calls Tryd.prog 42 #[.slice none 0 0, .slice A n c] w (NewI w (addL [] zs)) := by
  obtain ⟨i0, hi, hz0, hz1, hz2⟩ := info_parts Tryd.info3
  have H := Lib.hid h
  have HN := Lib.hid hn
  have HZ := Lib.hid hz
  clear h hn hz
  go_enter Tryd.func42, Tryd.ntmps42
  go_wp2
  go_loopw [0, 9] (fun v i wr => ∃ k : Nat, k ≤ n ∧ i = .int .i64 k ∧ Hid (RaI w zs k v wr)) (fun _ i _ => n - (intOf i).toNat)
  case atStart => exact ⟨0, Nat.zero_le _, rfl, ⟨World.ownsRow_nil _ _ _ _, Below.refl _ _⟩⟩
  case round =>
    obtain ⟨k, hk, rfl, HI⟩ := hrel
    have hrow := HI.out.own
    obtain ⟨A1, c1, rfl⟩ := own_slice hrow
    have hws := HI.out.below.size
    by_cases hlt : k < n
    · obtain ⟨b, off, x, rfl, hb, HX, x1⟩ := (H.out.below (HI.out.below.mono hB)).int hlt
      have hal := addL_len [] (zs.take k)
      have htk : (zs.take k).length = k := by rw [List.length_take, HN.out]; omega
      have hadd : addL [] (zs.take (k + 1)) = add1 (addL [] (zs.take k)) x := by rw [take_at HX.out, addL_snoc]
      have hbr : b < wr.heap.size := by omega
      simp only [List.length_nil, Nat.zero_add, htk] at hal
      have HADD := Lib.hid hadd
      have HRD : Hid (Reads wr wr.heap.size 1 A1 (addL [] (zs.take k)).length (i64c (addL [] (zs.take k)))) := Reads.of_own hrow
      clear hadd htk
      by_cases hneg : x < 0
      · have hg : (addL [] (zs.take (k + 1))) = addL [] (zs.take k) := by
          rw [HADD.out, add1, if_neg]
          rintro ⟨h2, _⟩
          omega
        have HG := Lib.hid hg
        clear hg
        have hd : decide (x ≥ 0) = false := by simp; omega
        go_wp2
        go_roundw
        case rel => exact ⟨k + 1, by omega, by go_num, ⟨by rw [HG.out]; exact hrow, HI.out.below⟩⟩
        case measure => simp [intOf]; omega
      · have hd : decide (x ≥ 0) = true := by simp; omega
        by_cases hin : x ∈ addL [] (zs.take k)
        · have hg : (addL [] (zs.take (k + 1))) = addL [] (zs.take k) := by
            rw [HADD.out, add1, if_neg]
            rintro ⟨_, h2⟩
            exact h2 hin
          have HG := Lib.hid hg
          have hm : decide (x ∈ addL [] (zs.take k)) = true := by simpa using hin
          have HM := Lib.hid hm
          clear hg hin hm
          go_wp2_with (first | (go_at_call 15; refine (in_any _ _ _ _ _ _ _ HRD.out rfl (by omega)).mono ?_; rintro e w2 ⟨rfl, rfl⟩; rw [HM.out]))
          go_roundw
          case rel => exact ⟨k + 1, by omega, by go_num, ⟨by rw [HG.out]; exact hrow, HI.out.below⟩⟩
          case measure => simp [intOf]; omega
        · have hg : (addL [] (zs.take (k + 1))) = addL [] (zs.take k) ++ [x] := by
            rw [HADD.out, add1, if_pos]
            exact ⟨by omega, hin⟩
          have HG := Lib.hid hg
          have hm : decide (x ∈ addL [] (zs.take k)) = false := by simpa using hin
          have HM := Lib.hid hm
          clear hg hin hm
          go_wp2_with (first
            | (go_at_call 15; refine (in_any _ _ _ _ _ _ _ HRD.out rfl (by omega)).mono ?_; rintro e w2 ⟨rfl, rfl⟩; rw [HM.out])
            | (at_builtin; refine wpList_append_own _ rfl _ _ 26 rfl w.heap.size 3 i0 (.int .i64 0) 1 8 Tryd.underlying26 hi hz0 hz1 hz2 rfl (by decide) _ _ _ rfl (hrow.alloc _) ⟨_, 0, none⟩ 1 1 [.int .i64 x] rfl rfl (cell_one_new _ _ _) (ints_oneCell .i64 [x]) (by unfold maxLen; omega) (by omega) (by simp; omega) ?_; intro v' w3 hown' hgrow2 hnil2))
          have s2 := hgrow2.size
          simp at s2
          go_roundw
          case rel =>
            refine ⟨k + 1, by omega, by go_num, ⟨?_, ?_⟩⟩
            · rw [HG.out]
              simpa [i64c] using hown'
            · exact ((HI.out.below.alloc hws _).grown hgrow2 (by simp; omega) (fun j hj => (hrow.lt j hj).1))
          case measure => simp [intOf]; omega
    · obtain rfl : n = k := by omega
      have hall : zs.take n = zs := List.take_of_length_le (by rw [HN.out]; omega)
      rw [hall] at hrow ⊢
      have HR : Hid (Reads wr wr.heap.size 1 A1 (addL [] zs).length (i64c (addL [] zs))) := Reads.of_own hrow
      have HC : Hid ((addL [] zs).length ≤ c1) := own_cap hrow
      have HBL := Lib.hid HI.out.below
      clear hrow hall
      go_wp2
      go_ret
      exact ⟨A1, c1, rfl, HR.out, HC.out, HBL.out⟩
end Go.Proofs.YtcljjacanomggaaDoor
