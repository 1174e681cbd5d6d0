/-
  Package kinds: goOn.
-/
import Derived.Test.YtcgoanfhabjpfaaKArr
namespace Go.Proofs.Ytcgoanfhabjpfaa
set_option linter.unusedVariables false
open Go.ChangeShapes Go.WideShapes Go.ChangeAt Go.RowKit

theorem reads_block {w w' : World} {B size n : Nat} {A : Option Addr} {xs : List Value} (h : Reads w B size A n xs) (hk : 0 < n → ∀ ad, A = some ad → w'.heap[ad.block]? = w.heap[ad.block]?) : Reads w' B size A n xs :=
  ⟨h.1, fun hn => by
    obtain ⟨ad, hA, hb, hc⟩ := h.2 hn
    refine ⟨ad, hA, hb, fun j u hu => ?_⟩
    rw [← hc j u hu]
    exact World.cell?_of_block (by rw [block_of_add]; exact hk hn ad hA)⟩
theorem keep_set {l : List (Option Stk)} {b c : Nat} {t : Stk} {x : Option Stk} (hb : l[b]? = some none) (hc : l[c]? = some (some t)) : (l.set b x)[c]? = some (some t) := by
  rw [List.getElem?_set_ne (by rintro rfl; rw [hb] at hc; cases hc)]; exact hc
theorem succ_le {a m b : Nat} {fs : List Fn} {f : Fn} {i : Ins} (hb : b ∈ succK a i) (ha : a < m) (hm : m ≤ 256) (hi : insRef fs f i = true) (hc : f.code.length = m) (h0 : 0 ≤ i.arg) : b ≤ 1000 := by
  have ht : i.op = 21 ∨ i.op = 22 → i.arg.toNat ≤ 256 := fun ho => by
    unfold insRef at hi
    rw [if_neg (by omega), if_neg (by omega), if_pos ho] at hi
    have : i.arg < f.code.length := by simpa using hi
    omega
  unfold succK at hb
  split at hb
  · have := ht (.inl ‹_›); simp at hb; omega
  split at hb
  · have := ht (.inr ‹_›); simp at hb; omega
  split at hb
  · cases hb
  · simp at hb; omega

/-- going on from one instruction to its successors -/
structure GI (w w4 : World) (B g ra sa n c m : Nat) (A : Option Addr) (rs : List Raw) (r : Raw) (l : List (Option Stk)) (wl : List Nat) (wv : Value) (a : Nat) (i : Ins) (s s' : Stk) (SU : Option Addr) (sm : Nat) (S5 : Option Addr) (q5 c5 j : Nat) (wr : World) (l' : List (Option Stk)) (wl' : List Nat) (vs' : List Value) (WA' : Option Addr) (wk' wcap' : Nat) : Prop where
  ws : WS wr B g ra sa A n c rs r m l' wl' vs' WA' wk' wcap'
  inv : Inv (fns rs) r.fn l' (a :: wl')
  at_ : l'[a]? = some (some s)
  done : ∀ b ∈ (succK a i).take j, l'[b]? = some (some s')
  cnt_ : cnt l' ≤ cnt l
  meas : 2 * cnt l' + wl'.length ≤ 2 * cnt l + wl.length
  wait : (Value.slice WA' wk' wcap').ownBlock = wv.ownBlock ∨ ∃ q, (Value.slice WA' wk' wcap').ownBlock = some q ∧ w4.heap.size ≤ q
  kp : Kp w wr (Ex g ra sa wv)
  su : Reads wr w4.heap.size 1 SU sm (intc (succK a i))
  st : wr.ownsRow w.heap.size 57 1 (.slice S5 q5 c5) q5 (u8c s')
  size : w4.heap.size ≤ wr.heap.size
/-- what stays the same of it -/
structure GC (w w4 : World) (B g ra sa : Nat) (rs : List Raw) (r : Raw) (l : List (Option Stk)) (wv : Value) (a : Nat) (i : Ins) (s s' : Stk) (SU : Option Addr) (sm : Nat) : Prop where
  code : r.fn.code[a]? = some i
  after : afterK (fns rs) r.fn i s = some s'
  lt4 : w.heap.size ≤ w4.heap.size
  gl : g < w.heap.size
  rl : ra < w.heap.size
  sl : sa < w.heap.size
  wvl : ∀ q, wv.ownBlock = some q → q < w.heap.size
  sul : 0 < sm → ∀ ad, SU = some ad → w.heap.size ≤ ad.block ∧ ad.block < w4.heap.size
  short : s'.length + 2 * cnt l ≤ 2 * l.length
section
variable {w w4 wr w2 : World} {B g ra sa n c m a sm q5 c5 j b wk' wcap' : Nat} {A SU S5 WA' : Option Addr} {rs : List Raw} {r : Raw} {l l' : List (Option Stk)} {wl wl' : List Nat} {vs' : List Value} {wv : Value} {i : Ins} {s s' : Stk}
theorem GI.exle (h : GI w w4 B g ra sa n c m A rs r l wl wv a i s s' SU sm S5 q5 c5 j wr l' wl' vs' WA' wk' wcap') (hc : GC w w4 B g ra sa rs r l wv a i s s' SU sm) : ∀ q, q < w4.heap.size → Ex g ra sa (.slice WA' wk' wcap') q → Ex g ra sa wv q := by
  rintro q hq (rfl | rfl | rfl | hx)
  · exact .inl rfl
  · exact .inr (.inl rfl)
  · exact .inr (.inr (.inl rfl))
  · rcases h.wait with hw | ⟨q', hq', hz⟩
    · rw [hw] at hx; exact .inr (.inr (.inr hx))
    · rw [hx] at hq'; injection hq' with hq'; omega
theorem GI.next (h : GI w w4 B g ra sa n c m A rs r l wl wv a i s s' SU sm S5 q5 c5 j wr l' wl' vs' WA' wk' wcap') (hc : GC w w4 B g ra sa rs r l wv a i s s' SU sm) (hll : l'.length = l.length)
    (hj : (succK a i)[j]? = some b) (hk : Kp wr w2 (Ex g ra sa (.slice WA' wk' wcap'))) (hy : ArrYes wr B g ra sa A n c rs r m l' wl' WA' wk' wcap' b s' w2) :
    ∃ l2 wl2 vs2 WA2 wk2 wcap2, GI w w4 B g ra sa n c m A rs r l wl wv a i s s' SU sm S5 q5 c5 (j + 1) w2 l2 wl2 vs2 WA2 wk2 wcap2 := by
  obtain ⟨l2, wl2, vs2, WA2, wk2, wcap2, hws, hwt, hcase⟩ := hy
  have hmem : b ∈ succK a i := List.mem_of_getElem? hj
  have hrch : Reach (fns rs) r.fn b s' := h.inv.step h.at_ hc.code hc.after hmem
  have hwait : (Value.slice WA2 wk2 wcap2).ownBlock = wv.ownBlock ∨ ∃ q, (Value.slice WA2 wk2 wcap2).ownBlock = some q ∧ w4.heap.size ≤ q := by
    rcases hwt with ht | ⟨q, hq, hz⟩
    · rw [ht]; exact h.wait
    · exact .inr ⟨q, hq, by have := h.size; omega⟩
  have hkp : Kp w w2 (Ex g ra sa wv) := h.kp.trans hk fun q hq hx => h.exle hc q (by have := hc.lt4; omega) hx
  have hsu : Reads w2 w4.heap.size 1 SU sm (intc (succK a i)) := reads_block h.su fun hp ad had => by
    obtain ⟨h1, h2⟩ := hc.sul hp ad had
    refine hk.block _ (by have := h.size; omega) fun hx => ?_
    rcases h.exle hc _ h2 hx with hx | hx | hx | hx
    · have := hc.gl; omega
    · have := hc.rl; omega
    · have := hc.sl; omega
    · have := hc.wvl _ hx; omega
  have hst : w2.ownsRow w.heap.size 57 1 (.slice S5 q5 c5) q5 (u8c s') := hk.own h.st (kind_ne h.ws h.st)
  have hsz : w4.heap.size ≤ w2.heap.size := Nat.le_trans h.size hk.size
  have htake : (succK a i).take (j + 1) = (succK a i).take j ++ [b] := by rw [List.take_add_one, hj]; rfl
  rcases hcase with ⟨hb, rfl, rfl⟩ | ⟨hb, rfl, rfl⟩
  · refine ⟨_, _, vs2, WA2, wk2, wcap2, ⟨hws, h.inv, h.at_, fun x hx => ?_, h.cnt_, h.meas, hwait, hkp, hsu, hst, hsz⟩⟩
    rw [htake] at hx
    rcases List.mem_append.1 hx with hx | hx
    · exact h.done x hx
    · obtain rfl : x = b := by simpa using hx
      exact hb
  · have hcs := cnt_set hb s'
    have hself : (l'.set b (some s'))[b]? = some (some s') := by
      rw [List.getElem?_set]; simp [(List.getElem?_eq_some_iff.1 hb).1]
    refine ⟨_, _, vs2, WA2, wk2, wcap2, ⟨hws, ?_, keep_set hb h.at_, fun x hx => ?_, by have := h.cnt_; omega, ?_, hwait, hkp, hsu, hst, hsz⟩⟩
    · have := h.inv.reach hb hrch (by have := hc.short; have := h.cnt_; omega)
      exact this
    · rw [htake] at hx
      rcases List.mem_append.1 hx with hx | hx
      · exact keep_set hb (h.done x hx)
      · obtain rfl : x = b := by simpa using hx
        exact hself
    · have := h.meas; rw [List.length_append]; simp; omega
end
end Go.Proofs.Ytcgoanfhabjpfaa
