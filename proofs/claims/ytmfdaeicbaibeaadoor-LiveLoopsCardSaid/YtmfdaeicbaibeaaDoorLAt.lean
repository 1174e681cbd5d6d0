/-
  Package live: liveAt.
-/
import Derived.Test.YtmfdaeicbaibeaaDoorLSp
namespace Go.Proofs.YtmfdaeicbaibeaaDoor
set_option linter.unusedVariables false
set_option linter.unusedSimpArgs false
open Go.ChangeShapes Go.WideShapes Go.ChangeAt Go.RowKit

/-- a row of ints lies in no block of words -/
theorem reads_kps {w w' : World} {B E R n q m k : Nat} {A : Option Addr} {l : List Int} {wss : List (List Nat)} (h : Reads w B 1 A k (i64c l)) (hB : B ≤ E) (hk : KpS w w' E R n) (hs : SetsI w R n q m wss) : Reads w' B 1 A k (i64c l) := by
  refine ⟨h.1, fun hn => ?_⟩
  obtain ⟨b, off, rfl, hb, hc⟩ := h.lit hn (by omega)
  have hne : ∀ j, j < n → b ≠ R + 1 + 2 * j := by
    intro j hj e
    subst e
    have hl : 0 < l.length := by have := h.1; rw [length_i64c] at this; omega
    have h1 := hc 0 _ (i64c_at (List.getElem?_eq_getElem hl))
    have hw := (hs.words j hj).cell (off + 0)
    rw [hw, List.getElem?_toArray] at h1
    unfold u64n at h1
    rw [List.getElem?_map] at h1
    rcases e2 : (wss.getD j [])[off + 0]? with _ | y
    · rw [e2] at h1; cases h1
    · rw [e2] at h1
      injection h1 with h1
      injection h1 with h1
      cases h1
  refine ⟨⟨b, off, none⟩, rfl, hb, fun j u hu => ?_⟩
  have ea : (⟨b, off, none⟩ : Addr).add j = ⟨b, off + j, none⟩ := by simp [Addr.add]
  rw [ea]
  exact (World.cell?_of_block (hk.block b (by omega) hne)).trans (hc j u hu)
theorem llenr (n : Nd) (h : n.args.length * 8 ≤ 140737488351232) : (readsOf n).length ≤ 140737488351232 := by
  have := addL_len [] (readF n)
  unfold readsOf
  have h2 : (readF n).length ≤ n.args.length + 2 := by unfold readF; split <;> (try split) <;> (try split) <;> simp <;> omega
  simp at this
  omega
/-- all read places that are there -/
def ReadIn (ns : List Nd) (m : Nat) : Prop := ∀ n ∈ ns, ∀ x ∈ readsOf n, 0 ≤ x ∧ x < m
set_option maxRecDepth 100000 in
set_option maxHeartbeats 6400000 in
theorem liveAt_any (B : Nat) (po ko io no : Option Addr) (nP pc nK kc nI ic n nc q : Nat) (cells keep entry : Int) (res : Bool) (rn : List RN) (w : World) (hN : RdNs w B no n rn) (hB : B ≤ w.heap.size) (hn : n ≤ 4096) (hK : nK ≤ 1024) (hq : q = (nK + 63) / 64) (hv : NextIn (nds rn)) (hrd : ReadIn (nds rn) nK) :
    Calls Tryd.prog 20 #[.agg #[.slice po nP pc, .slice ko nK kc, .int .i64 cells, .slice io nI ic, .bool res, .int .i64 keep, .slice no n nc, .int .i64 entry]] w fun e w' =>
      ∃ R wss, e = .returned (.slice (some ⟨R, 0, none⟩) n n) ∧ SetsI w' R n q nK wss ∧ (∀ i p, hasS wss i p = true ↔ Live (nds rn) p i) ∧ Below w.heap.size w w' ∧ w.heap.size < R := by
  obtain ⟨cs, hcs⟩ : ∃ cs : Array Value, cs = #[.slice po nP pc, .slice ko nK kc, .int .i64 cells, .slice io nI ic, .bool res, .int .i64 keep, .slice no n nc, .int .i64 entry] := ⟨_, rfl⟩
  have hb1 : Below w.heap.size w (w.alloc (.cells #[.slice po nP pc, .slice ko nK kc, .int .i64 cells, .slice io nI ic, .bool res, .int .i64 keep, .slice no n nc, .int .i64 entry] 37)) := (Below.refl _ _).alloc (Nat.le_refl _) _
  have HG1 := Lib.hid (Blk.new w 37 #[.slice po nP pc, .slice ko nK kc, .int .i64 cells, .slice io nI ic, .bool res, .int .i64 keep, .slice no n nc, .int .i64 entry])
  have HNB := Lib.hid (newBack_any B po ko io no nP pc nK kc nI ic n nc q cells keep entry res rn _ (hN.below (hb1.mono hB)) (by simp; omega) hn hK hq hv)
  have HB1 := Lib.hid hb1
  have HRN := Lib.hid hN
  have HV := Lib.hid hv
  have HRI := Lib.hid hrd
  have HLN : Hid ((nds rn).length = n) := Lib.hid (by rw [length_nds]; exact hN.len)
  have HZ1 : Hid ((w.alloc (.cells #[.slice po nP pc, .slice ko nK kc, .int .i64 cells, .slice io nI ic, .bool res, .int .i64 keep, .slice no n nc, .int .i64 entry] 37)).heap.size = w.heap.size + 1) := Lib.hid (by simp)
  clear hcs hq hN hv hrd hb1
  go_enter Tryd.func20, Tryd.ntmps20
  go_wp2_with (go_at_call 40; refine HNB.out.mono ?_; rintro e w1 ⟨bb, R1, R2, R, vs, ls, rfl, hi, hlb, hlw⟩; have HI := Lib.hid hi; have HLB := Lib.hid hlb; have HLW := Lib.hid hlw; clear hi hlb hlw; have g6 : w1.cell? ⟨w.heap.size, 6, none⟩ = some (.slice no n nc) := (HG1.out.below HI.out.below HG1.out.lt).cell 6)
  clear g6
  have HBW := Lib.hid HI.out.bw
  have HL3 : Hid (w.heap.size + 1 < R) := Lib.hid (by have := HI.out.l3; rw [HZ1.out] at this; exact this)
  have HW1 := Lib.hid (HB1.out.trans (HI.out.below.mono HB1.out.size))
  obtain ⟨E, hE⟩ : ∃ E, E = w1.heap.size := ⟨_, rfl⟩
  rw [← hE] at HBW
  have HEE := Lib.hid hE
  obtain ⟨base, hbase⟩ : ∃ b, b = (w.alloc (.cells #[.slice po nP pc, .slice ko nK kc, .int .i64 cells, .slice io nI ic, .bool res, .int .i64 keep, .slice no n nc, .int .i64 entry] 37)).heap.size := ⟨_, rfl⟩
  rw [← hbase] at HBW
  clear hE hbase HI HNB HG1 HB1 HZ1
  go_loopw [13] (fun i wr => ∃ (k : Nat) (wss : List (List Nat)), k ≤ n ∧ i = .int .i64 k ∧ Hid (BwI wr E base bb R1 R2 R n q nK vs ls wss) ∧ Hid (KpS w1 wr E R n) ∧ Hid (LvI (nds rn) wss k 0)) (fun i _ => n - (intOf i).toNat)
  case atStart => exact ⟨0, _, by omega, rfl, HBW, Lib.hid (KpS.refl _ _ _ _), Lib.hid (LvI.start _ _ _)⟩
  case round =>
    clear HBW
    obtain ⟨k, wss, hk, rfl, HB, HK, HLV⟩ := hrel
    have HBK : Hid (Below w.heap.size w wr) := Lib.hid (HW1.out.trans (HK.out.out (by have := HL3.out; have := HB.out.eR; omega) (by have := HL3.out; omega)))
    by_cases hlt : k < n
    · obtain ⟨bn, on, i, hno, hbn, HXI, HRN1, HWI, u0, u1, u2, u3, u4, u5, u6, u7, u8, u9, u10, u11⟩ := (HRN.out.below (HBK.out.mono hB)).nd hlt
      have HXN : Hid ((nds rn)[k]? = some i.nd) := Lib.hid (by unfold nds; rw [List.getElem?_map, HXI.out]; rfl)
      have hwz := HBK.out.size
      have hbnr : bn < wr.heap.size := by omega
      have hb6 : Below wr.heap.size wr (wr.alloc (.cells #[.int .u8 i.nd.op, .int .u8 i.nd.bop, .int .i64 i.nd.d, .int .i64 i.nd.e, .int .i64 i.nd.a, .int .i64 i.nd.b, .int .i64 i.nd.f, .int .i64 i.nd.cell, .int .u64 i.nd.imm, .slice i.ao i.nd.args.length i.ac, .int .i64 i.nd.next, .int .i64 i.nd.els] 64)) := (Below.refl _ _).alloc (Nat.le_refl _) _
      have HRE := Lib.hid (reads_any B i.nd.op i.nd.bop i.nd.d i.nd.e i.nd.a i.nd.b i.nd.f i.nd.cell i.nd.imm i.nd.args i.nd.next i.nd.els i.ao i.nd.args.length i.ac _ HWI.out.o0 HWI.out.o1 HWI.out.d HWI.out.e HWI.out.a HWI.out.b HWI.out.next HWI.out.els (HRN1.out.below (hb6.mono (by omega))).args rfl HWI.out.args HWI.out.al HRN1.out.cap (show B ≤ (wr.alloc (.cells #[.int .u8 i.nd.op, .int .u8 i.nd.bop, .int .i64 i.nd.d, .int .i64 i.nd.e, .int .i64 i.nd.a, .int .i64 i.nd.b, .int .i64 i.nd.f, .int .i64 i.nd.cell, .int .u64 i.nd.imm, .slice i.ao i.nd.args.length i.ac, .int .i64 i.nd.next, .int .i64 i.nd.els] 64)).heap.size by simp; omega))
      have HB6 := Lib.hid hb6
      rw [hno]
      have HNO := Lib.hid hno
      clear hno hb6
      obtain ⟨xs, hxs⟩ : ∃ xs, xs = readsOf ⟨i.nd.op, i.nd.bop, i.nd.d, i.nd.e, i.nd.a, i.nd.b, i.nd.f, i.nd.cell, i.nd.imm, i.nd.args, i.nd.next, i.nd.els⟩ := ⟨_, rfl⟩
      rw [← hxs] at HRE
      have HXS : Hid (xs = readsOf i.nd) := Lib.hid hxs
      clear hxs
      go_wp2_with (go_at_call 41; refine HRE.out.mono ?_; rintro e w5 ⟨A5, c5, rfl, hr5, hc5, hb5⟩; have HR5 := Lib.hid hr5; have HB5 := Lib.hid (HB6.out.trans (hb5.mono HB6.out.size)); clear hr5 hb5)
      clear u0 u1 u2 u3 u4 u5 u6 u7 u8 u9 u10 u11 hbnr
      have hEr := HB.out.eE
      have HBi := Lib.hid (HB.out.on (HB5.out.mono hEr))
      have HKi := Lib.hid (HK.out.below HB5.out hEr)
      obtain ⟨l, hl⟩ : ∃ l, l = xs.length := ⟨_, rfl⟩
      rw [← hl] at HR5 hc5 ⊢
      have HL := Lib.hid hl
      have hlb : l ≤ 140737488351232 := by rw [hl, HXS.out]; exact llenr _ HWI.out.al
      obtain ⟨B7, hB7⟩ : ∃ b, b = w5.heap.size := ⟨_, rfl⟩
      rw [← hB7] at HR5
      have hB7' : B7 ≤ w5.heap.size := by omega
      clear hl HB HK HRE HB6 hB7 HRN1
      go_loopw [21] (fun i wr => ∃ (j : Nat) (wss : List (List Nat)), j ≤ l ∧ i = .int .i64 j ∧ B7 ≤ wr.heap.size ∧ Hid (BwI wr E base bb R1 R2 R n q nK vs ls wss) ∧ Hid (KpS w1 wr E R n) ∧ Hid (LvI (nds rn) wss k j) ∧ Hid (Reads wr B7 1 A5 l (i64c xs))) (fun i _ => l - (intOf i).toNat)
      case atStart => exact ⟨0, wss, by omega, rfl, hB7', HBi, HKi, HLV, HR5⟩
      case round =>
        clear HBi HKi HR5 HLV hB7'
        obtain ⟨j, wss, hj, rfl, hB7, HB, HK, HLV, HR⟩ := hrel
        by_cases hjl : j < l
        · obtain ⟨bx, ox, x, hxe, hbx, HXX, x1⟩ := HR.out.int hjl
          have hxm : (readsOf i.nd)[j]? = some x := by rw [← HXS.out]; exact HXX.out
          obtain ⟨hx0, hx1⟩ := HRI.out i.nd (List.mem_of_getElem? HXN.out) x (List.mem_of_getElem? hxm)
          obtain ⟨p, rfl⟩ : ∃ p : Nat, x = (p : Int) := ⟨x.toNat, by omega⟩
          have HSP := Lib.hid (spread_any E base bb R1 R2 R n q nK vs ls wss p k wr HB.out HLN.out hn HLB.out HLW.out HV.out (by omega) HXN.out (List.mem_of_getElem? hxm) (fun a ha => HLV.out.clo p a ha))
          have HXM := Lib.hid hxm
          rw [hxe]
          have HXE := Lib.hid hxe
          clear hxe hxm hx0 hx1
          go_wp2_with (go_at_call 42; refine HSP.out.mono ?_; rintro e w7 ⟨rfl, wss7, hb7, hk7, hs7⟩; have HB7 := Lib.hid hb7; have HK7 := Lib.hid hk7; have HS7 := Lib.hid hs7; clear hb7 hk7 hs7)
          go_roundw
          case rel =>
            rw [← HXE.out]
            exact ⟨j + 1, wss7, by omega, by go_num, by have := HK7.out.size; omega, HB7, Lib.hid (HK.out.trans HK7.out HB.out.eE), Lib.hid (HLV.out.spread HXN.out HXM.out HS7.out), Lib.hid (reads_kps HR.out hB7 HK7.out HB.out.sets)⟩
          case measure => simp [intOf]; omega
        · obtain rfl : l = j := by omega
          have HNXT := Lib.hid (HLV.out.next HXN.out (by rw [← HXS.out, ← HL.out]; exact Nat.le_refl _))
          go_wp2
          go_roundw
          case rel => exact ⟨k + 1, wss, by omega, by go_num, HB, HK, HNXT⟩
          case measure => simp [intOf]; omega
    · have hkn : k = n := by omega
      have HALL : Hid (∀ i p, hasS wss i p = true ↔ Live (nds rn) p i) := Lib.hid (by
        have h := HLV.out
        rw [hkn, ← HLN.out] at h
        exact h.all)
      have b2 : wr.cell? ⟨bb, 2, none⟩ = some (.slice (some ⟨R, 0, none⟩) n n) := HB.out.box.cell 2
      go_wp2
      go_ret
      exact ⟨R, wss, rfl, HB.out.sets, HALL.out, HBK.out, by have := HL3.out; omega⟩
end Go.Proofs.YtmfdaeicbaibeaaDoor
