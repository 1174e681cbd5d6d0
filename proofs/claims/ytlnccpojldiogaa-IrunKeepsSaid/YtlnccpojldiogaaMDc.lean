/-
  Texts of one seat, one behind the other: IGood, IGoodX, IGoodS, IEv.
-/
import Derived.LoopTactic
import Derived.Test.YtlnccpojldiogaaMDa
import Derived.Test.YtlnccpojldiogaaMBa

/-
  Package irun: what is kept, step by step, in a run that is read free.
-/
namespace Go.Proofs.Ytlnccpojldiogaa
set_option linter.unusedVariables false
set_option linter.unusedSimpArgs false

theorem isW_zero : isW 0 := by unfold isW; omega
theorem isW_one : isW 1 := by unfold isW; omega
theorem wrap_isW (n : Int) : isW (IntKind.u64.wrap n) := by unfold isW; rw [wrap_u64_eq]; omega
theorem bit_isW (x : Bool) : isW (wbit x) := by unfold wbit isW; split <;> omega
theorem ite_isW {c : Prop} [Decidable c] {a b : Int} (h1 : isW a) (h2 : isW b) : isW (if c then a else b) := by
  by_cases h : c
  · rw [if_pos h]; exact h1
  · rw [if_neg h]; exact h2
theorem shr_isW {a b : Int} (ha : isW a) : isW (wshr a b) := by
  unfold isW wshr at *
  have hp : (0 : Int) < 2 ^ min b.toNat 64 := Int.pow_pos (by omega)
  have h1 := Int.ediv_le_self (2 ^ min b.toNat 64) ha.1
  have h2 := Int.ediv_nonneg ha.1 (Int.le_of_lt hp)
  omega
theorem doV_isW (op a b : Int) (ha : isW a) : isW (doV op a b) :=
  ite_isW (wrap_isW _) (ite_isW (wrap_isW _) (ite_isW (wrap_isW _) (ite_isW (ite_isW isW_zero (wrap_isW _)) (ite_isW (ite_isW isW_zero (wrap_isW _)) (ite_isW (wrap_isW _) (ite_isW (wrap_isW _) (ite_isW (wrap_isW _) (ite_isW (wrap_isW _) (ite_isW (shr_isW ha) (ite_isW (wrap_isW _) (ite_isW (bit_isW _) (ite_isW (bit_isW _) (bit_isW _)))))))))))))

def n3I : List IFr → Nat
  | [] => 0
  | t :: bl => (if t.why = 3 then 1 else 0) + n3I bl
def ndsI : List IFr → Nat
  | [] => 0
  | t :: bl => t.defs.length + ndsI bl
/-- what is asked of a frame -/
structure FrI (gs : List Gr) (t : IFr) : Prop where
  f : t.f < gs.length
  why : t.why ≤ 3
  num : isW t.number
  wds : ∀ k, isW (t.words k)
  defs : ∀ d ∈ t.defs, d.fn < gs.length ∧ d.args.length = (grOf gs d.fn).params.length ∧ ∀ a ∈ d.args, isW a
def NodeOk (gs : List Gr) (t : IFr) : Prop := isOne t.at_ (grOf gs t.f).nodes.length
def AnsOk (gs : List Gr) (t : IFr) : Prop := t.answer = -1 ∨ isOne t.answer (grOf gs t.f).kinds.length
/-- .. of frames, one upon the other; m: 0 the last one does not go on, 1 it goes on, 2 it goes on when what it called has ended -/
def ChI (gs : List Gr) : Nat → List IFr → Prop
  | _, [] => True
  | m, t :: bl => (1 ≤ m → NodeOk gs t) ∧ (m = 2 → AnsOk gs t) ∧ (bl = [] → t.why = 0) ∧ (∀ u ∈ bl, u.serial < t.serial) ∧ ChI gs (if t.why = 1 then 2 else 0) bl
/-- what is kept -/
structure GoodI (gs : List Gr) (st : IMc) : Prop where
  frs : ∀ t ∈ st.frames, FrI gs t
  ch : ChI gs (if st.doing = 0 then 1 else 0) st.frames
  hid : st.hidn = 0
  kb : st.kb = []
  regs : st.regs = []
  ne : st.doing ≠ 3 → st.frames ≠ []
  pans : st.doing ≠ 3 → st.panics.length = n3I st.frames + (if st.doing = 2 then 1 else 0)
  panw : ∀ p ∈ st.panics, isW p.1
  wait : st.waiting = ndsI st.frames
  tape : ∀ v ∈ st.tape, isW v
  doing : st.doing = 0 ∨ st.doing = 1 ∨ st.doing = 2 ∨ st.doing = 3
  srl : ∀ t ∈ st.frames, t.serial < st.begun
  s0 : st.begun ≤ st.steps + (if st.doing = 0 then 1 else 0) ∨ st.doing = 3 ∧ st.begun ≤ st.steps + 1
  s1 : st.frames.length ≤ st.steps + (if st.doing = 0 then 1 else 0)
  s2 : st.depth ≤ st.steps + 1
  s3 : st.panics.length ≤ st.steps
  s4 : st.evs.length ≤ st.steps
  s5 : st.waiting ≤ st.steps
  s6 : st.defers ≤ st.steps
  s7 : st.maxp ≤ st.steps
section
variable {gs : List Gr} {m m2 : Nat} {frs bl fs : List IFr} {t t2 u u' : IFr} {st st1 st2 : IMc} {v p : Int} {j : Nat} {rs : List RG}
theorem ChI.imp (h : ChI gs m fs) (hm : m2 ≤ m) (h2 : m2 = 2 → m = 2) : ChI gs m2 fs := by
  cases fs with
  | nil => trivial
  | cons t bl => exact ⟨fun h1 => h.1 (by omega), fun h1 => h.2.1 (h2 h1), h.2.2⟩
theorem ChI.top (h : ChI gs m (t :: bl)) (hw : t2.why = t.why) (hs : t2.serial = t.serial) (hn : 1 ≤ m2 → NodeOk gs t2) (ha : m2 = 2 → AnsOk gs t2) : ChI gs m2 (t2 :: bl) := by
  obtain ⟨_, _, h2, h3, h4⟩ := h
  exact ⟨hn, ha, by rw [hw]; exact h2, by rw [hs]; exact h3, by rw [hw]; exact h4⟩
theorem ChI.set : ∀ {m : Nat} {fs : List IFr} {j : Nat}, ChI gs m fs → fs[j]? = some u → u'.why = u.why → u'.serial = u.serial → u'.at_ = u.at_ → u'.f = u.f → u'.answer = u.answer → ChI gs m (fs.set j u')
  | _, [], j, _, hj, _, _, _, _, _ => by simp at hj
  | m, t :: bl, 0, h, hj, hw, hs, ha, hf, hn => by
    obtain rfl : t = u := by simpa using hj
    refine h.top hw hs (fun hm => ?_) fun hm => ?_
    · have := h.1 hm
      unfold NodeOk at *
      rw [ha, hf]
      exact this
    · have := h.2.1 hm
      unfold AnsOk at *
      rw [hn, hf]
      exact this
  | m, t :: bl, j + 1, h, hj, hw, hs, ha, hf, hn => by
    obtain ⟨h1, h1', h2, h3, h4⟩ := h
    have hj' : bl[j]? = some u := by simpa using hj
    refine ⟨h1, h1', fun h => h2 ?_, fun v hv => ?_, ChI.set h4 hj' hw hs ha hf hn⟩
    · cases bl with
      | nil => rfl
      | cons a b => cases j <;> simp at h
    · rcases List.mem_or_eq_of_mem_set hv with h | rfl
      · exact h3 v h
      · rw [hs]
        exact h3 u (List.mem_of_getElem? hj')
theorem n3I_set : ∀ {fs : List IFr} {j : Nat}, fs[j]? = some u → u'.why = u.why → n3I (fs.set j u') = n3I fs
  | [], j, hj, _ => by simp at hj
  | t :: bl, 0, hj, hw => by
    obtain rfl : t = u := by simpa using hj
    show (if u'.why = 3 then 1 else 0) + n3I bl = _
    rw [hw]; rfl
  | t :: bl, j + 1, hj, hw => by
    show _ + n3I (bl.set j u') = _
    rw [n3I_set (by simpa using hj) hw]; rfl
theorem ndsI_set : ∀ {fs : List IFr} {j : Nat}, fs[j]? = some u → u'.defs = u.defs → ndsI (fs.set j u') = ndsI fs
  | [], j, hj, _ => by simp at hj
  | t :: bl, 0, hj, hw => by
    obtain rfl : t = u := by simpa using hj
    show u'.defs.length + ndsI bl = _
    rw [hw]; rfl
  | t :: bl, j + 1, hj, hw => by
    show _ + ndsI (bl.set j u') = _
    rw [ndsI_set (by simpa using hj) hw]; rfl
theorem ndsI_le : ∀ {frs : List IFr} {t : IFr}, t ∈ frs → t.defs.length ≤ ndsI frs
  | [], t, h => by cases h
  | u :: bl, t, h => by
    unfold ndsI
    rcases List.mem_cons.1 h with rfl | h
    · omega
    · have := ndsI_le h
      omega
theorem ChI.down : ∀ {m : Nat} {fs : List IFr}, ChI gs m fs → SerDown fs
  | _, [], _ => fun i j t u hi _ _ => by simp at hi
  | m, a :: bl, ⟨_, _, _, h3, h4⟩ => fun i j t u hi hj hij => by
    cases j with
    | zero => omega
    | succ j =>
      have hj' : bl[j]? = some u := by simpa using hj
      cases i with
      | zero =>
        obtain rfl : a = t := by simpa using hi
        exact h3 u (List.mem_of_getElem? hj')
      | succ i => exact ChI.down h4 i j t u (by simpa using hi) hj' (by omega)
theorem rsAt {k : Nat} (h : k < (grs rs).length) : ∃ r, rs[k]? = some r ∧ grOf (grs rs) k = r.gr := by
  rw [length_grs] at h
  exact ⟨rs[k], List.getElem?_eq_getElem h, grOf_at (List.getElem?_eq_getElem h)⟩
theorem GoodI.bd (h : GoodI (grs rs) st) (hs : st.steps ≤ 1000001) : IBd rs false st := by
  have h1 := h.s1
  have h1' : st.frames.length ≤ st.steps + 1 := by split at h1 <;> omega
  have h0 := h.s0
  have h0' : st.begun ≤ st.steps + 1 := by
    rcases h0 with h0 | h0
    · split at h0 <;> omega
    · omega
  have h2 := h.s2
  have h3 := h.s3
  have h4 := h.s4
  have h5 := h.s5
  have h6 := h.s6
  have h7 := h.s7
  have hw := h.wait
  refine ⟨h.hid, h.kb, by omega, by omega, by omega, by omega, by omega, by omega, by omega, by omega, fun t ht => ?_, fun t ht => ?_, fun t ht d hd => ?_, fun _ t b bl hf hw => ?_, h.ch.down, fun t ht => (h.frs t ht).why, fun t ht => ?_⟩
  · obtain ⟨r, hr, _⟩ := rsAt (h.frs t ht).f
    exact ⟨r, hr⟩
  · have := ndsI_le ht
    omega
  · obtain ⟨d1, d2, _⟩ := (h.frs t ht).defs d hd
    obtain ⟨r, hr, hg⟩ := rsAt d1
    rw [hg] at d2
    exact ⟨r, hr, d2⟩
  · have hc := h.ch
    rw [hf] at hc
    have hc2 := hc.2.2.2.2
    rw [if_pos hw] at hc2
    rcases hc2.2.1 rfl with h1 | h1
    · exact .inl h1
    · obtain ⟨r, hr, hg⟩ := rsAt (h.frs b (by rw [hf]; simp)).f
      rw [hg] at h1
      exact .inr ⟨r, hr, h1⟩
  · have := h.srl t ht
    omega
theorem put1_isW {wd : Nat → Int} {k : Nat} (h : ∀ k, isW (wd k)) (hv : isW v) : ∀ x, isW (put1 wd k v x) := fun x => by
  unfold put1
  split
  · exact hv
  · exact h x
theorem FrI.words {wd : Nat → Int} (h : FrI gs t) (hw : ∀ k, isW (wd k)) : FrI gs { t with words := wd } := ⟨h.f, h.why, h.num, hw, h.defs⟩
theorem putT_false (gs : List Gr) (t : IFr) (p v : Int) : putT gs false t p v = { t with words := put1 t.words (ownAt gs false t.f p) v } := by unfold putT; rw [if_neg (by simp)]
theorem putR_false (r : List Int) (p v : Int) : putR false r p v = r := by unfold putR; rw [if_neg (by simp)]
theorem getP_false (gs : List Gr) (r : List Int) (t : IFr) (p : Int) : getP gs false r t p = t.words (ownAt gs false t.f p) := by unfold getP; rw [if_neg (by simp)]
/-- arguments laid -/
theorem layP_false : ∀ (ps cs xs : List Int) (rg : List Int) (t : IFr), FrI gs t → (∀ x ∈ xs, isW x) → ∃ wd, layP gs false ps cs xs (rg, t) = (rg, { t with words := wd }) ∧ ∀ k, isW (wd k)
  | p :: ps, c :: cs, a :: xs, rg, t, ht, hx => by
    have h1 : ∀ k, isW (put1 t.words (ownAt gs false t.f p) a k) := put1_isW ht.wds (hx a (by simp))
    by_cases hc : c = -1
    · obtain ⟨wd, e1, e2⟩ := layP_false ps cs xs rg { t with words := put1 t.words (ownAt gs false t.f p) a } (ht.words h1) fun x h => hx x (by simp [h])
      refine ⟨wd, ?_, e2⟩
      rw [layP, putR_false, putT_false, if_pos hc]
      exact e1
    · obtain ⟨wd, e1, e2⟩ := layP_false ps cs xs rg { t with words := put1 (put1 t.words (ownAt gs false t.f p) a) c.toNat a } (ht.words (put1_isW h1 (hx a (by simp)))) fun x h => hx x (by simp [h])
      refine ⟨wd, ?_, e2⟩
      rw [layP, putR_false, putT_false, if_neg hc]
      exact e1
  | [], _, _, rg, t, ht, _ => ⟨t.words, by simp [layP], ht.wds⟩
  | _ :: _, [], _, rg, t, ht, _ => ⟨t.words, by simp [layP], ht.wds⟩
  | _ :: _, _ :: _, [], rg, t, ht, _ => ⟨t.words, by simp [layP], ht.wds⟩
theorem entry_ok {k : Nat} (hv : valid (grs rs) false) (hk : k < (grs rs).length) : isOne (grOf (grs rs) k).entry (grOf (grs rs) k).nodes.length := by
  obtain ⟨r, hr, hg⟩ := rsAt hk
  rw [hg]
  exact (val_head hv hr).2.2.2.2.2.2.2
/-- a frame begins -/
theorem begin_good {why k : Nat} {args : List Int} (hv : valid (grs rs) false) (hfr : ∀ t ∈ st.frames, FrI (grs rs) t) (hch : ChI (grs rs) (if why = 1 then 2 else 0) st.frames) (hid : st.hidn = 0) (hkb : st.kb = []) (hrg : st.regs = []) (hne : st.frames = [] → why = 0) (hk : k < (grs rs).length) (hy : why ≤ 3) (hx : ∀ x ∈ args, isW x)
    (hpan : st.panics.length = n3I st.frames + (if why = 3 then 1 else 0)) (panw : ∀ p ∈ st.panics, isW p.1) (wait : st.waiting = ndsI st.frames) (tape : ∀ v ∈ st.tape, isW v) (srl : ∀ t ∈ st.frames, t.serial < st.begun)
    (s0 : st.begun ≤ st.steps) (s1 : st.frames.length ≤ st.steps) (s2 : st.depth ≤ st.steps + 1) (s3 : st.panics.length ≤ st.steps) (s4 : st.evs.length ≤ st.steps) (s5 : st.waiting ≤ st.steps) (s6 : st.defers ≤ st.steps) (s7 : st.maxp ≤ st.steps) : GoodI (grs rs) (st.begin (grs rs) false why k args) := by
  have hn : FrI (grs rs) (⟨why, k, st.begun, (grOf (grs rs) k).entry, fun _ => 0, [], 0, 0, List.replicate 16 0⟩ : IFr) := ⟨hk, hy, isW_zero, fun _ => isW_zero, fun d hd => (by cases hd)⟩
  obtain ⟨wd, e1, e2⟩ := layP_false (gs := grs rs) (grOf (grs rs) k).params (grOf (grs rs) k).init args st.regs _ hn hx
  have est : st.begin (grs rs) false why k args = ({ st with frames := ⟨why, k, st.begun, (grOf (grs rs) k).entry, wd, [], 0, 0, List.replicate 16 0⟩ :: st.frames, begun := st.begun + 1, depth := max st.depth (st.frames.length + 1), doing := 0 } : IMc) := by
    unfold IMc.begin
    rw [e1]
  rw [est]
  refine ⟨fun t ht => ?_, ⟨fun _ => entry_ok hv hk, fun h => (by rw [if_pos rfl] at h; cases h), hne, fun u hu => srl u hu, hch⟩, hid, hkb, hrg, fun _ => (by simp), fun _ => ?_, panw, ?_, tape, .inl rfl, fun t ht => ?_, .inl ?_, ?_, ?_, s3, s4, s5, s6, s7⟩
  · rcases List.mem_cons.1 ht with rfl | h
    · exact hn.words e2
    · exact hfr t h
  · show st.panics.length = n3I (_ :: st.frames) + (if (0 : Int) = 2 then 1 else 0)
    rw [if_neg (by decide), hpan]
    show n3I st.frames + (if why = 3 then 1 else 0) = (if why = 3 then 1 else 0) + n3I st.frames + 0
    omega
  · show st.waiting = 0 + ndsI st.frames
    omega
  · show t.serial < st.begun + 1
    rcases List.mem_cons.1 ht with rfl | h
    · exact Nat.lt_succ_self _
    · have := srl t h
      omega
  · show st.begun + 1 ≤ st.steps + (if (0 : Int) = 0 then 1 else 0)
    rw [if_pos rfl]
    omega
  · show (_ :: st.frames).length ≤ st.steps + (if (0 : Int) = 0 then 1 else 0)
    rw [if_pos rfl, List.length_cons]
    omega
  · show max st.depth (st.frames.length + 1) ≤ st.steps + 1
    omega
end
end Go.Proofs.Ytlnccpojldiogaa

/-
  Package irun: a run that is read free goes on: nodes.
-/
namespace Go.Proofs.Ytlnccpojldiogaa
set_option linter.unusedVariables false
set_option linter.unusedSimpArgs false

section
variable {gs : List Gr} {m m2 : Nat} {frs bl fs : List IFr} {t t2 u u' : IFr} {st st1 st2 : IMc} {v p : Int} {j : Nat} {rs : List RG} {r : RG} {n : Nd}
/-- one step more, the last frame turned -/
theorem good_go {tp : List Int} {ev : List (Int × Int)} (h : GoodI gs st) (hd : st.doing = 0) (hf : st.frames = t :: bl) (ht2 : FrI gs t2) (hw : t2.why = t.why) (hs : t2.serial = t.serial) (hdf : t2.defs = t.defs) (hn : NodeOk gs t2) (htp : ∀ v ∈ tp, isW v) (hev : ev.length ≤ st.evs.length + 1) : GoodI gs ({ st with steps := st.steps + 1, frames := t2 :: bl, tape := tp, evs := ev } : IMc) := by
  have h1 := h.s1
  have h0 := h.s0
  have hp := h.pans (by omega)
  have hwt := h.wait
  have hc := h.ch
  have hsr := h.srl
  have h3 := h.s3
  have h4 := h.s4
  have h5 := h.s5
  have h6 := h.s6
  have h7 := h.s7
  have h2 := h.s2
  rw [hf] at h1 hp hwt hc hsr
  rw [hd] at h1 h0 hp hc
  simp only [if_true, List.length_cons] at h1 h0 hc
  refine ⟨fun x hx => ?_, ?_, h.hid, h.kb, h.regs, fun _ => (by simp), fun _ => ?_, h.panw, ?_, htp, .inl hd, fun x hx => ?_, .inl ?_, ?_, (by show st.depth ≤ st.steps + 1 + 1; omega), (by show st.panics.length ≤ st.steps + 1; omega), (by show ev.length ≤ st.steps + 1; omega), (by show st.waiting ≤ st.steps + 1; omega), (by show st.defers ≤ st.steps + 1; omega), (by show st.maxp ≤ st.steps + 1; omega)⟩
  · rcases List.mem_cons.1 hx with rfl | hx
    · exact ht2
    · exact h.frs x (by rw [hf]; simp [hx])
  · show ChI gs (if st.doing = 0 then 1 else 0) (t2 :: bl)
    rw [if_pos hd]
    exact hc.top hw hs (fun _ => hn) (fun h => (by cases h))
  · show st.panics.length = n3I (t2 :: bl) + (if st.doing = 2 then 1 else 0)
    rw [hp, hd]
    simp [n3I, hw]
  · show st.waiting = ndsI (t2 :: bl)
    rw [hwt]
    simp [ndsI, hdf]
  · show x.serial < st.begun
    rcases List.mem_cons.1 hx with rfl | hx
    · rw [hs]; exact hsr t (by simp)
    · exact hsr x (by simp [hx])
  · show st.begun ≤ st.steps + 1 + (if st.doing = 0 then 1 else 0)
    rw [if_pos hd]
    have : st.begun ≤ st.steps + 1 := by rcases h0 with h0 | h0 <;> omega
    omega
  · show (t2 :: bl).length ≤ st.steps + 1 + (if st.doing = 0 then 1 else 0)
    rw [if_pos hd, List.length_cons]
    omega
/-- .. the last frame ends, is unwound, or all is over -/
theorem good_stop {dg kk vv : Int} {ps : List (Int × Bool)} {mp : Nat} (h : GoodI gs st) (hd : st.doing = 0) (hf : st.frames = t :: bl) (ht2 : FrI gs t2) (hw : t2.why = t.why) (hs : t2.serial = t.serial) (hdf : t2.defs = t.defs) (hdg : dg = 1 ∨ dg = 2 ∨ dg = 3) (hps : dg ≠ 3 → ps.length = n3I (t :: bl) + (if dg = 2 then 1 else 0)) (hpl : ps.length ≤ st.steps + 1) (hpw : ∀ p ∈ ps, isW p.1) (hmp : mp ≤ st.steps + 1) : GoodI gs ({ st with steps := st.steps + 1, frames := t2 :: bl, doing := dg, panics := ps, maxp := mp, endk := kk, endv := vv } : IMc) := by
  have h1 := h.s1
  have h0 := h.s0
  have hwt := h.wait
  have hc := h.ch
  have hsr := h.srl
  have h3 := h.s3
  have h4 := h.s4
  have h5 := h.s5
  have h6 := h.s6
  have h2 := h.s2
  rw [hf] at h1 hwt hc hsr
  rw [hd] at h1 h0 hc
  simp only [if_true, List.length_cons] at h1 h0 hc
  refine ⟨fun x hx => ?_, ?_, h.hid, h.kb, h.regs, fun _ => (by simp), fun h3 => ?_, hpw, ?_, h.tape, .inr hdg, fun x hx => ?_, .inl ?_, ?_, (by show st.depth ≤ st.steps + 1 + 1; omega), hpl, (by show st.evs.length ≤ st.steps + 1; omega), (by show st.waiting ≤ st.steps + 1; omega), (by show st.defers ≤ st.steps + 1; omega), hmp⟩
  · rcases List.mem_cons.1 hx with rfl | hx
    · exact ht2
    · exact h.frs x (by rw [hf]; simp [hx])
  · show ChI gs (if dg = 0 then 1 else 0) (t2 :: bl)
    rw [if_neg (by omega)]
    exact hc.top hw hs (fun h => (by omega)) (fun h => (by cases h))
  · show ps.length = n3I (t2 :: bl) + (if dg = 2 then 1 else 0)
    rw [hps h3]
    simp [n3I, hw]
  · show st.waiting = ndsI (t2 :: bl)
    rw [hwt]
    simp [ndsI, hdf]
  · show x.serial < st.begun
    rcases List.mem_cons.1 hx with rfl | hx
    · rw [hs]; exact hsr t (by simp)
    · exact hsr x (by simp [hx])
  · show st.begun ≤ st.steps + 1 + (if dg = 0 then 1 else 0)
    rw [if_neg (by omega)]
    rcases h0 with h0 | h0 <;> omega
  · show (t2 :: bl).length ≤ st.steps + 1 + (if dg = 0 then 1 else 0)
    rw [if_neg (by omega), List.length_cons]
    omega
theorem put_eq (st : IMc) (gs : List Gr) (t : IFr) (bl : List IFr) (p v : Int) : st.put gs false t bl p v = { st with frames := { t with words := put1 t.words (ownAt gs false t.f p) v } :: bl } := by
  unfold IMc.put
  rw [putT_false, putR_false]
theorem iP_null : isW iByNull := by unfold isW iByNull; omega
theorem iP_zero : isW iByZero := by unfold isW iByZero; omega
theorem pointee_at {fs : List IFr} {v : Int} {j cl : Nat} (h : pointee gs fs v = some (j, cl)) : ∃ u, fs[j]? = some u := by
  unfold pointee at h
  simp only [] at h
  cases hx : fs.findIdx? (fun t => decide ((t.serial : Int) = (v - iFirst) % 18446744073709551616 / 64)) with
  | none => rw [hx] at h; cases h
  | some i =>
    rw [hx] at h
    simp only [] at h
    cases hf : fs[i]? with
    | none => rw [hf] at h; cases h
    | some t =>
      rw [hf] at h
      simp only [] at h
      split at h
      · injection h with h
        injection h with h1 h2
        subst h1
        exact ⟨t, hf⟩
      · cases h
/-- words of a frame turned -/
theorem GoodI.setw {wd : Nat → Int} (h : GoodI gs st) (hj : st.frames[j]? = some u) (hw : ∀ k, isW (wd k)) : GoodI gs { st with frames := st.frames.set j { u with words := wd } } := by
  have hl : (st.frames.set j { u with words := wd }).length = st.frames.length := List.length_set
  have mem : ∀ x ∈ st.frames.set j { u with words := wd }, x ∈ st.frames ∨ x = { u with words := wd } := fun x hx => List.mem_or_eq_of_mem_set hx
  have hu := List.mem_of_getElem? hj
  refine ⟨fun x hx => ?_, h.ch.set hj rfl rfl rfl rfl rfl, h.hid, h.kb, h.regs, fun hd he => h.ne hd ?_, fun hd => ?_, h.panw, ?_, h.tape, h.doing, fun x hx => ?_, h.s0, ?_, h.s2, h.s3, h.s4, h.s5, h.s6, h.s7⟩
  · rcases mem x hx with hx | rfl
    · exact h.frs x hx
    · exact (h.frs u hu).words hw
  · have he' : st.frames.set j { u with words := wd } = [] := he
    rw [he'] at hl
    exact List.eq_nil_of_length_eq_zero hl.symm
  · show st.panics.length = n3I (st.frames.set j _) + _
    rw [n3I_set (u' := { u with words := wd }) hj rfl]
    exact h.pans hd
  · show st.waiting = ndsI (st.frames.set j _)
    rw [ndsI_set (u' := { u with words := wd }) hj rfl]
    exact h.wait
  · rcases mem x hx with hx | rfl
    · exact h.srl x hx
    · exact h.srl u hu
  · show (st.frames.set j _).length ≤ _
    rw [hl]
    exact h.s1
/-- what a node asks of what comes behind it -/
theorem node_next {bd : Bool} (h : nodeHolds gs (grOf gs t.f) bd n) (h1 : n.op ≠ 12) (h2 : n.op ≠ 14) (h3 : n.op ≠ 18) (h4 : 1 ≤ n.op ∧ n.op ≤ 18) : isOne n.next (grOf gs t.f).nodes.length ∧ (n.op = 9 → isOne n.els (grOf gs t.f).nodes.length) := by
  obtain ⟨_, hx⟩ := h
  have hs : nextsOf n = if n.op = 9 ∧ n.els ≠ n.next then [n.next, n.els] else [n.next] := by
    unfold nextsOf
    rw [if_neg (by omega)]
  rw [hs] at hx
  by_cases h9 : n.op = 9 ∧ n.els ≠ n.next
  · rw [if_pos h9] at hx
    exact ⟨hx _ (by simp), fun _ => hx _ (by simp)⟩
  · rw [if_neg h9] at hx
    refine ⟨hx _ (by simp), fun h => ?_⟩
    by_cases he : n.els = n.next
    · rw [he]; exact hx _ (by simp)
    · exact absurd ⟨h, he⟩ h9
theorem frs_raise (v : Int) (hv : isW v) (h : GoodI gs st) (hd : st.doing = 0) (hf : st.frames = t :: bl) (ht2 : FrI gs t2) (hw : t2.why = t.why) (hs : t2.serial = t.serial) (hdf : t2.defs = t.defs) : GoodI gs ((({ st with steps := st.steps + 1 } : IMc).top t2 bl).raise v) := by
  have hp := h.pans (by omega)
  have h3 := h.s3
  have h7 := h.s7
  rw [hf, hd] at hp
  refine good_stop (dg := 2) (ps := (v, false) :: st.panics) (mp := max st.maxp (st.panics.length + 1)) (kk := st.endk) (vv := st.endv) h hd hf ht2 hw hs hdf (.inr (.inl rfl)) (fun _ => ?_) (by simp only [List.length_cons]; omega) (fun p hp => ?_) (by omega)
  · rw [List.length_cons, hp]
    simp
  · rcases List.mem_cons.1 hp with rfl | hp
    · exact hv
    · exact h.panw p hp
set_option maxHeartbeats 1600000 in
theorem exec_good (hv : valid (grs rs) false) (h : GoodI (grs rs) st) (hd : st.doing = 0) (hf : st.frames = t :: bl) (hr : rs[t.f]? = some r) (hnd : n ∈ r.gr.nodes) (hi : isW n.imm) :
    ∃ st1, execI (grs rs) false { st with steps := st.steps + 1 } { t with at_ := n.next } bl n = some st1 ∧ GoodI (grs rs) st1 ∧ st1.steps = st.steps + 1 := by
  have hg : grOf (grs rs) t.f = r.gr := grOf_at hr
  have hnh : nodeHolds (grs rs) (grOf (grs rs) t.f) false n := by rw [hg]; exact hv.2.2.2 r.gr (List.mem_map_of_mem (List.mem_of_getElem? hr)) n hnd
  have huse := hnh.1
  have hF := h.frs t (by rw [hf]; simp)
  have hF2 : FrI (grs rs) { t with at_ := n.next } := ⟨hF.f, hF.why, hF.num, hF.wds, hF.defs⟩
  have hwp : ∀ p, isW (getP (grs rs) false st.regs { t with at_ := n.next } p) := fun p => by rw [getP_false]; exact hF.wds _
  -- a place written
  have put : ∀ (p v : Int) (tp : List Int) (ev : List (Int × Int)), isW v → NodeOk (grs rs) { t with at_ := n.next } → (∀ v ∈ tp, isW v) → ev.length ≤ st.evs.length + 1 → GoodI (grs rs) (({ st with steps := st.steps + 1, tape := tp, evs := ev } : IMc).put (grs rs) false { t with at_ := n.next } bl p v) := fun p v tp ev hv hn htp hev => by
    rw [put_eq]
    exact good_go (tp := tp) (ev := ev) h hd hf (hF2.words (put1_isW hF.wds hv)) rfl rfl rfl hn htp hev
  have hput : ∀ (p v : Int), isW v → NodeOk (grs rs) { t with at_ := n.next } → GoodI (grs rs) (({ st with steps := st.steps + 1 } : IMc).put (grs rs) false { t with at_ := n.next } bl p v) := fun p v hv hn => put p v st.tape st.evs hv hn h.tape (by omega)
  have same : ∀ t2 : IFr, FrI (grs rs) t2 → t2.why = t.why → t2.serial = t.serial → t2.defs = t.defs → NodeOk (grs rs) t2 → GoodI (grs rs) (({ st with steps := st.steps + 1 } : IMc).top t2 bl) := fun t2 a b c d e => good_go (tp := st.tape) (ev := st.evs) h hd hf a b c d e h.tape (by omega)
  have hnx : n.op ≠ 12 → n.op ≠ 14 → n.op ≠ 18 → 1 ≤ n.op ∧ n.op ≤ 18 → NodeOk (grs rs) { t with at_ := n.next } := fun a b c d => (node_next hnh a b c d).1
  unfold uses at huse
  unfold execI
  by_cases o1 : n.op = 1
  · exact ⟨_, if_pos o1, hput _ _ hi (hnx (by omega) (by omega) (by omega) (by omega)), rfl⟩
  rw [if_neg o1]
  by_cases o2 : n.op = 2
  · exact ⟨_, if_pos o2, hput _ _ (hwp _) (hnx (by omega) (by omega) (by omega) (by omega)), rfl⟩
  rw [if_neg o2]
  by_cases o3 : n.op = 3
  · rw [if_pos o3]
    by_cases he : doE n.bop (getP (grs rs) false st.regs { t with at_ := n.next } n.b) = 0
    · exact ⟨_, if_pos he, hput _ _ (doV_isW _ _ _ (hwp _)) (hnx (by omega) (by omega) (by omega) (by omega)), rfl⟩
    · exact ⟨_, if_neg he, frs_raise _ iP_zero h hd hf hF2 rfl rfl rfl, rfl⟩
  rw [if_neg o3]
  by_cases o4 : n.op = 4
  · exact ⟨_, if_pos o4, hput _ _ (hF.wds _) (hnx (by omega) (by omega) (by omega) (by omega)), rfl⟩
  rw [if_neg o4]
  by_cases o5 : n.op = 5
  · exact ⟨_, if_pos o5, same _ (hF2.words (put1_isW hF.wds (hwp _))) rfl rfl rfl (hnx (by omega) (by omega) (by omega) (by omega)), rfl⟩
  rw [if_neg o5]
  by_cases o6 : n.op = 6
  · exact ⟨_, if_pos o6, hput _ _ (by unfold isW; omega) (hnx (by omega) (by omega) (by omega) (by omega)), rfl⟩
  rw [if_neg o6]
  have hfrs : ∀ (j : Nat) (u : IFr), ({ t with at_ := n.next } :: bl : List IFr)[j]? = some u → FrI (grs rs) u := fun j u hu => by
    rcases List.mem_cons.1 (List.mem_of_getElem? hu) with rfl | hx
    · exact hF2
    · exact h.frs u (by rw [hf]; simp [hx])
  by_cases o7 : n.op = 7
  · rw [if_pos o7]
    cases hp : pointee (grs rs) ({ t with at_ := n.next } :: bl) (getP (grs rs) false st.regs { t with at_ := n.next } n.a) with
    | none => exact ⟨_, rfl, frs_raise _ iP_null h hd hf hF2 rfl rfl rfl, rfl⟩
    | some q =>
      obtain ⟨j, c⟩ := q
      obtain ⟨u, hu⟩ := pointee_at hp
      simp only [hu, Option.map_some]
      exact ⟨_, rfl, hput _ _ ((hfrs j u hu).wds _) (hnx (by omega) (by omega) (by omega) (by omega)), rfl⟩
  rw [if_neg o7]
  by_cases o8 : n.op = 8
  · rw [if_pos o8]
    cases hp : pointee (grs rs) ({ t with at_ := n.next } :: bl) (getP (grs rs) false st.regs { t with at_ := n.next } n.a) with
    | none => exact ⟨_, rfl, frs_raise _ iP_null h hd hf hF2 rfl rfl rfl, rfl⟩
    | some q =>
      obtain ⟨j, c⟩ := q
      obtain ⟨u, hu⟩ := pointee_at hp
      simp only [hu, Option.map_some]
      refine ⟨_, rfl, ?_, rfl⟩
      have hb := same _ hF2 rfl rfl rfl (hnx (by omega) (by omega) (by omega) (by omega))
      exact hb.setw hu (put1_isW (hfrs j u hu).wds (hwp _))
  rw [if_neg o8]
  by_cases o9 : n.op = 9
  · refine ⟨_, if_pos o9, same _ ⟨hF.f, hF.why, hF.num, hF.wds, hF.defs⟩ rfl rfl rfl ?_, rfl⟩
    obtain ⟨a, b⟩ := node_next hnh (by omega) (by omega) (by omega) (by omega)
    unfold NodeOk
    show isOne (if _ then _ else _) _
    split
    · exact b o9
    · exact a
  rw [if_neg o9]
  by_cases o10 : n.op = 10
  · exact ⟨_, if_pos o10, same _ hF2 rfl rfl rfl (hnx (by omega) (by omega) (by omega) (by omega)), rfl⟩
  rw [if_neg o10]
  -- arguments
  have hands2 : ∀ {f : Int} {xs : List Int}, hands (grs rs) (grOf (grs rs) t.f) false f xs → f.toNat < (grs rs).length ∧ (argsP (grs rs) false st.regs { t with at_ := n.next } xs).length = (grOf (grs rs) f.toNat).params.length ∧ ∀ a ∈ argsP (grs rs) false st.regs { t with at_ := n.next } xs, isW a := fun {f xs} hh => by
    obtain ⟨⟨f0, f1⟩, hl, _⟩ := hh
    refine ⟨by omega, ?_, fun a ha => ?_⟩
    · unfold argsP
      rw [List.length_map, hl]
      rfl
    · unfold argsP at ha
      obtain ⟨p, _, rfl⟩ := List.mem_map.1 ha
      exact hwp p
  have h1 := h.s1
  have h0 := h.s0
  have hwt := h.wait
  have hc := h.ch
  have hsr := h.srl
  have h3 := h.s3
  have h4 := h.s4
  have h5 := h.s5
  have h6 := h.s6
  have h7 := h.s7
  have h2 := h.s2
  have hp := h.pans (by omega)
  rw [hf] at h1 hwt hc hsr hp
  rw [hd] at h1 h0 hc hp
  simp only [if_true, List.length_cons] at h1 h0 hc
  have hbg : st.begun ≤ st.steps + 1 := by rcases h0 with h0 | h0 <;> omega
  by_cases o11 : n.op = 11
  · rw [if_pos o11]
    rw [if_neg (by omega), if_neg (by omega), if_neg (by omega), if_neg (by omega), if_neg (by omega), if_neg (by omega), if_neg (by omega), if_neg (by omega), if_neg (by omega), if_neg (by omega), if_pos o11] at huse
    obtain ⟨k1, k2, k3⟩ := hands2 huse.1
    have hnk := hnx (by omega) (by omega) (by omega) (by omega)
    have hans : AnsOk (grs rs) { t with at_ := n.next, answer := n.d } := by
      rcases huse.2 with h1 | ⟨_, h1, _⟩
      · exact .inl h1
      · exact .inr h1.1
    refine ⟨_, rfl, ?_, rfl⟩
    refine begin_good hv (st := ({ st with steps := st.steps + 1 } : IMc).top { t with at_ := n.next, answer := n.d } bl) (fun x hx => ?_) ?_ h.hid h.kb h.regs (fun he => by cases he) k1 (by omega) k3 ?_ h.panw ?_ h.tape (fun x hx => ?_) (by show st.begun ≤ st.steps + 1; exact hbg) (by show (_ :: bl).length ≤ st.steps + 1; rw [List.length_cons]; omega) (by show st.depth ≤ st.steps + 1 + 1; omega) (by show st.panics.length ≤ st.steps + 1; omega) (by show st.evs.length ≤ st.steps + 1; omega) (by show st.waiting ≤ st.steps + 1; omega) (by show st.defers ≤ st.steps + 1; omega) (by show st.maxp ≤ st.steps + 1; omega)
    · rcases List.mem_cons.1 hx with rfl | hx
      · exact ⟨hF.f, hF.why, hF.num, hF.wds, hF.defs⟩
      · exact h.frs x (by rw [hf]; simp [hx])
    · rw [if_pos rfl]
      exact hc.top rfl rfl (fun _ => hnk) (fun _ => hans)
    · show st.panics.length = n3I (_ :: bl) + (if 1 = 3 then 1 else 0)
      rw [hp]
      simp [n3I]
    · show st.waiting = ndsI (_ :: bl)
      rw [hwt]
      simp [ndsI]
    · rcases List.mem_cons.1 hx with rfl | hx
      · exact hsr t (by simp)
      · exact hsr x (by simp [hx])
  rw [if_neg o11]
  by_cases o12 : n.op = 12
  · rw [if_pos o12]
    refine ⟨_, rfl, ?_, rfl⟩
    by_cases ha : n.a = -1
    · rw [if_pos ha]
      exact good_stop (dg := 1) (ps := st.panics) (mp := st.maxp) (kk := st.endk) (vv := st.endv) h hd hf hF2 rfl rfl rfl (.inl rfl) (fun _ => by rw [hp]; simp) (by omega) h.panw (by omega)
    · rw [if_neg ha]
      exact good_stop (dg := 1) (ps := st.panics) (mp := st.maxp) (kk := st.endk) (vv := st.endv) h hd hf (t2 := { t with at_ := n.next, number := getP (grs rs) false st.regs { t with at_ := n.next } n.a }) ⟨hF.f, hF.why, hwp _, hF.wds, hF.defs⟩ rfl rfl rfl (.inl rfl) (fun _ => by rw [hp]; simp) (by omega) h.panw (by omega)
  rw [if_neg o12]
  by_cases o13 : n.op = 13
  · rw [if_pos o13]
    rw [if_neg (by omega), if_neg (by omega), if_neg (by omega), if_neg (by omega), if_neg (by omega), if_neg (by omega), if_neg (by omega), if_neg (by omega), if_neg (by omega), if_neg (by omega), if_neg o11, if_neg o12, if_pos o13] at huse
    obtain ⟨k1, k2, k3⟩ := hands2 huse
    have hnk := hnx (by omega) (by omega) (by omega) (by omega)
    refine ⟨_, rfl, ?_, rfl⟩
    refine ⟨fun x hx => ?_, ?_, h.hid, h.kb, h.regs, fun _ => (by simp [IMc.top]), fun _ => ?_, h.panw, ?_, h.tape, .inl hd, fun x hx => ?_, .inl ?_, ?_, (by show st.depth ≤ st.steps + 1 + 1; omega), (by show st.panics.length ≤ st.steps + 1; omega), (by show st.evs.length ≤ st.steps + 1; omega), (by show st.waiting + 1 ≤ st.steps + 1; omega), (by show max st.defers (st.waiting + 1) ≤ st.steps + 1; omega), (by show st.maxp ≤ st.steps + 1; omega)⟩
    · rcases List.mem_cons.1 hx with rfl | hx
      · refine ⟨hF.f, hF.why, hF.num, hF.wds, fun d hd => ?_⟩
        rcases List.mem_cons.1 hd with rfl | hd
        · exact ⟨k1, k2, k3⟩
        · exact hF.defs d hd
      · exact h.frs x (by rw [hf]; simp [hx])
    · show ChI _ (if st.doing = 0 then 1 else 0) _
      rw [if_pos hd]
      exact hc.top rfl rfl (fun _ => hnk) (fun h => (by cases h))
    · show st.panics.length = n3I (_ :: bl) + (if st.doing = 2 then 1 else 0)
      rw [hp, hd]
      simp [n3I]
    · show st.waiting + 1 = ndsI (_ :: bl)
      rw [hwt]
      simp only [ndsI, List.length_cons]
      omega
    · show x.serial < st.begun
      rcases List.mem_cons.1 hx with rfl | hx
      · exact hsr t (by simp)
      · exact hsr x (by simp [hx])
    · show st.begun ≤ st.steps + 1 + (if st.doing = 0 then 1 else 0)
      rw [if_pos hd]
      omega
    · show (_ :: bl).length ≤ st.steps + 1 + (if st.doing = 0 then 1 else 0)
      rw [if_pos hd, List.length_cons]
      omega
  rw [if_neg o13]
  by_cases o14 : n.op = 14
  · exact ⟨_, if_pos o14, frs_raise _ (hwp _) h hd hf hF2 rfl rfl rfl, rfl⟩
  rw [if_neg o14]
  by_cases o15 : n.op = 15
  · rw [if_pos o15]
    have hnk := hnx (by omega) (by omega) (by omega) (by omega)
    have two : ∀ (ps : List (Int × Bool)) (v w : Int), isW v → isW w → ps.length = st.panics.length → (∀ p ∈ ps, isW p.1) → GoodI (grs rs) (({ st with steps := st.steps + 1, panics := ps } : IMc).put (grs rs) false { t with at_ := n.next } bl n.d v |>.put2 (grs rs) false bl n.e w) := fun ps v w hv hw hpl hpw => by
      rw [put_eq]
      show GoodI _ (IMc.put _ (grs rs) false _ bl n.e w)
      rw [put_eq]
      have hb := good_go (tp := st.tape) (ev := st.evs) h hd hf (t2 := { t with at_ := n.next, words := put1 (put1 t.words (ownAt (grs rs) false t.f n.d) v) (ownAt (grs rs) false t.f n.e) w }) (hF2.words (put1_isW (put1_isW hF.wds hv) hw)) rfl rfl rfl hnk h.tape (by omega)
      exact ⟨hb.frs, hb.ch, hb.hid, hb.kb, hb.regs, hb.ne, fun h3 => by rw [← hb.pans h3]; exact hpl, hpw, hb.wait, hb.tape, hb.doing, hb.srl, hb.s0, hb.s1, hb.s2, by have := hb.s3; show ps.length ≤ _; rw [hpl]; exact this, hb.s4, hb.s5, hb.s6, hb.s7⟩
    by_cases hy : t.why = 3
    · rw [if_pos hy]
      rcases hpq : st.panics with _ | ⟨⟨v, _ | _⟩, ps⟩
      · exfalso
        have h9 : n3I (t :: bl) = 1 + n3I bl := by simp [n3I, hy]
        rw [hpq, h9] at hp
        simp only [List.length_nil] at hp
        split at hp <;> omega
      · refine ⟨_, rfl, two ((v, true) :: ps) v 1 (h.panw (v, false) (by rw [hpq]; simp)) isW_one (by rw [hpq]; rfl) (fun p hp => ?_), rfl⟩
        rcases List.mem_cons.1 hp with rfl | hp
        · exact h.panw (v, false) (by rw [hpq]; simp)
        · exact h.panw p (by rw [hpq]; simp [hp])
      · exact ⟨_, rfl, by have := two ((v, true) :: ps) 0 0 isW_zero isW_zero (by rw [hpq]) (by rw [← hpq]; exact h.panw); exact this, rfl⟩
    · rw [if_neg hy]
      exact ⟨_, rfl, by have := two st.panics 0 0 isW_zero isW_zero rfl h.panw; exact this, rfl⟩
  rw [if_neg o15]
  by_cases o16 : n.op = 16
  · refine ⟨_, if_pos o16, ?_, rfl⟩
    have htp : isW (st.tape.headD 0) := by
      cases hx : st.tape with
      | nil => exact isW_zero
      | cons a l => exact h.tape a (by rw [hx]; simp)
    exact put n.d _ st.tape.tail (st.evs ++ [(2, st.tape.headD 0)]) htp (hnx (by omega) (by omega) (by omega) (by omega)) (fun v hv => h.tape v (List.mem_of_mem_tail hv)) (by simp)
  rw [if_neg o16]
  by_cases o17 : n.op = 17
  · exact ⟨_, if_pos o17, good_go (tp := st.tape) (ev := st.evs ++ [(1, getP (grs rs) false st.regs { t with at_ := n.next } n.a)]) h hd hf hF2 rfl rfl rfl (hnx (by omega) (by omega) (by omega) (by omega)) h.tape (by simp), rfl⟩
  rw [if_neg o17]
  by_cases o18 : n.op = 18
  · exact ⟨_, if_pos o18, good_stop (dg := 3) (ps := st.panics) (mp := st.maxp) (kk := 1) (vv := getP (grs rs) false st.regs { t with at_ := n.next } n.a) h hd hf hF2 rfl rfl rfl (.inr (.inr rfl)) (fun h => absurd rfl h) (by omega) h.panw (by omega), rfl⟩
  exact absurd huse (by
    repeat rw [if_neg (by omega)]
    exact id)
end
end Go.Proofs.Ytlnccpojldiogaa

/-
  Package irun: a run that is read free goes on: what ends; steps; runs.
-/
namespace Go.Proofs.Ytlnccpojldiogaa
set_option linter.unusedVariables false
set_option linter.unusedSimpArgs false

section
variable {gs : List Gr} {m m2 : Nat} {frs bl fs : List IFr} {t t2 u u' : IFr} {st st1 st2 : IMc} {v p : Int} {j : Nat} {rs : List RG} {r : RG} {n : Nd} {tape : List Int}
/-- the last frame is gone -/
theorem good_pop {fr : List IFr} {dg kk vv : Int} {ps : List (Int × Bool)} (h : GoodI gs st) (hd : st.doing = 1 ∨ st.doing = 2) (hf : st.frames = t :: bl) (hdf : t.defs = []) (hfr : ∀ x ∈ fr, FrI gs x) (hch : ChI gs (if dg = 0 then 1 else 0) fr) (hn : ndsI fr = ndsI bl) (hl : fr.length = bl.length) (hs : ∀ x ∈ fr, x.serial < st.begun) (hne : dg ≠ 3 → fr ≠ []) (hdg : dg = 0 ∨ dg = 1 ∨ dg = 2 ∨ dg = 3) (hps : dg ≠ 3 → ps.length = n3I fr + (if dg = 2 then 1 else 0)) (hpl : ps.length ≤ st.steps) (hpw : ∀ p ∈ ps, isW p.1) : GoodI gs ({ st with frames := fr, doing := dg, panics := ps, endk := kk, endv := vv } : IMc) := by
  have h1 := h.s1
  have h0 := h.s0
  have hwt := h.wait
  rw [hf] at h1 hwt
  rw [if_neg (by omega)] at h1 h0
  simp only [List.length_cons] at h1
  refine ⟨hfr, hch, h.hid, h.kb, h.regs, hne, hps, hpw, ?_, h.tape, hdg, hs, .inl ?_, ?_, h.s2, hpl, h.s4, h.s5, h.s6, h.s7⟩
  · show st.waiting = ndsI fr
    rw [hwt, hn]
    simp [ndsI, hdf]
  · show st.begun ≤ st.steps + (if dg = 0 then 1 else 0)
    have : st.begun ≤ st.steps := by rcases h0 with h0 | h0 <;> omega
    omega
  · show fr.length ≤ st.steps + (if dg = 0 then 1 else 0)
    rw [hl]
    omega
theorem kept_isW (h : FrI gs t) : isW (keptI gs t) := by
  unfold keptI
  split
  · exact isW_zero
  · exact h.wds _
set_option maxHeartbeats 1600000 in
theorem settle1_good (hv : valid (grs rs) false) (h : GoodI (grs rs) st) (hd : st.doing = 1 ∨ st.doing = 2) :
    ∃ st', settleI1 (grs rs) false st = some st' ∧ GoodI (grs rs) st' ∧ st'.steps = st.steps ∧ (st'.doing = 0 ∨ st'.doing = 3 ∨ (st'.doing = 1 ∨ st'.doing = 2) ∧ st'.frames.length < st.frames.length) := by
  have hd3 : st.doing ≠ 3 := by omega
  have h1 := h.s1
  have h0 := h.s0
  have hwt := h.wait
  have hc := h.ch
  have hsr := h.srl
  have h3 := h.s3
  have h4 := h.s4
  have h5 := h.s5
  have h6 := h.s6
  have h7 := h.s7
  have h2 := h.s2
  have hp := h.pans hd3
  rcases hf : st.frames with _ | ⟨t, bl⟩
  · exact absurd hf (h.ne hd3)
  have hF := h.frs t (by rw [hf]; simp)
  have hFb : ∀ x ∈ bl, FrI (grs rs) x := fun x hx => h.frs x (by rw [hf]; simp [hx])
  rw [hf] at h1 hwt hc hsr hp
  rw [if_neg (by omega)] at h1 h0 hc
  obtain ⟨_, _, hne, hsd, hcb⟩ := hc
  have hsb : ∀ x ∈ bl, x.serial < st.begun := fun x hx => hsr x (by simp [hx])
  have hn3 : n3I (t :: bl) = (if t.why = 3 then 1 else 0) + n3I bl := rfl
  have hcf : ChI (grs rs) 0 bl := hcb.imp (by omega) (fun h => by cases h)
  rcases hds : t.defs with _ | ⟨d, ds⟩
  · -- it is removed
    rcases hd with hd1 | hd2
    · rw [hd1] at hp
      rw [if_neg (by decide), Nat.add_zero] at hp
      by_cases y0 : t.why = 0
      · refine ⟨_, by simp only [settleI1, hf, hds, hd1, if_true, y0]; rfl, good_pop (dg := 3) (kk := 1) (vv := 0) (ps := st.panics) h (.inl hd1) hf hds hFb hcf rfl rfl hsb (fun h => absurd rfl h) (by omega) (fun h => absurd rfl h) h3 h.panw, rfl, .inr (.inl rfl)⟩
      have hbl : bl ≠ [] := fun h => y0 (hne h)
      rcases bl with _ | ⟨b, bl⟩
      · exact absurd rfl hbl
      have hFB := hFb b (by simp)
      by_cases y1 : t.why = 1
      · rw [if_pos y1] at hcb
        rw [if_neg (show ¬ t.why = 3 by omega), Nat.zero_add] at hn3
        rw [hn3] at hp
        by_cases ha : b.answer = -1
        · refine ⟨{ st with frames := b :: bl, doing := 0 }, by simp [settleI1, hf, hds, hd1, y0, y1, ha], good_pop (dg := 0) (kk := st.endk) (vv := st.endv) (ps := st.panics) h (.inl hd1) hf hds hFb (hcb.imp (by simp) (fun h => by simp at h)) rfl rfl hsb (fun _ => by simp) (by omega) (fun _ => by rw [hp]; simp) h3 h.panw, rfl, .inl rfl⟩
        · refine ⟨{ st with frames := { b with words := put1 b.words (ownAt (grs rs) false b.f b.answer) t.number } :: bl, doing := 0 }, by simp [settleI1, hf, hds, hd1, y0, y1, ha, put_eq], good_pop (dg := 0) (kk := st.endk) (vv := st.endv) (ps := st.panics) h (.inl hd1) hf hds (fun x hx => ?_) (hcb.top rfl rfl (fun _ => hcb.1 (by omega)) (fun h => by simp at h)) rfl rfl (fun x hx => ?_) (fun _ => by simp) (by omega) (fun _ => by rw [hp]; simp [n3I]) h3 h.panw, rfl, .inl rfl⟩
          · rcases List.mem_cons.1 hx with rfl | hx
            · exact hFB.words (put1_isW hFB.wds hF.num)
            · exact hFb x (by simp [hx])
          · rcases List.mem_cons.1 hx with rfl | hx
            · exact hsb b (by simp)
            · exact hsb x (by simp [hx])
      by_cases y2 : t.why = 2
      · rw [if_neg (show ¬ t.why = 3 by omega), Nat.zero_add] at hn3
        rw [hn3] at hp
        refine ⟨{ st with frames := b :: bl }, by simp [settleI1, hf, hds, hd1, y0, y1, y2], ?_, rfl, .inr (.inr ⟨.inl hd1, by simp⟩)⟩
        have := good_pop (dg := st.doing) (kk := st.endk) (vv := st.endv) (ps := st.panics) h (.inl hd1) hf hds hFb (by rw [hd1]; exact hcf) rfl rfl hsb (fun _ => by simp) (by omega) (fun _ => by rw [hp, hd1]; simp) h3 h.panw
        exact this
      have y3 : t.why = 3 := by have := hF.why; omega
      rw [if_pos y3] at hn3
      rcases hpq : st.panics with _ | ⟨⟨v, rc⟩, ps⟩
      · rw [hpq, hn3] at hp
        simp only [List.length_nil] at hp
        omega
      rw [hpq] at hp h3
      simp only [List.length_cons] at hp h3
      cases rc
      · refine ⟨{ st with frames := b :: bl, doing := 2 }, by simp [settleI1, hf, hds, hd1, y0, y1, y2, hpq], good_pop (dg := 2) (kk := st.endk) (vv := st.endv) (ps := st.panics) h (.inl hd1) hf hds hFb hcf rfl rfl hsb (fun _ => by simp) (by omega) (fun _ => by rw [hpq, List.length_cons, hp, hn3]; simp; omega) h.s3 h.panw, rfl, .inr (.inr ⟨.inr rfl, by simp⟩)⟩
      · refine ⟨{ st with frames := { b with number := keptI (grs rs) b } :: bl, panics := ps }, by simp [settleI1, hf, hds, hd1, y0, y1, y2, hpq], ?_, rfl, .inr (.inr ⟨.inl hd1, by simp⟩)⟩
        have := good_pop (fr := { b with number := keptI (grs rs) b } :: bl) (dg := st.doing) (kk := st.endk) (vv := st.endv) (ps := ps) h (.inl hd1) hf hds (fun x hx => by
          rcases List.mem_cons.1 hx with rfl | hx
          · exact ⟨hFB.f, hFB.why, kept_isW hFB, hFB.wds, hFB.defs⟩
          · exact hFb x (by simp [hx])) (by rw [hd1]; exact hcf.top rfl rfl (fun h => by simp at h) (fun h => by simp at h)) rfl rfl (fun x hx => by
          rcases List.mem_cons.1 hx with rfl | hx
          · exact hsb b (by simp)
          · exact hsb x (by simp [hx])) (fun _ => by simp) (by omega) (fun _ => by rw [hd1]; show ps.length = n3I (b :: bl) + 0; omega) (by omega) (fun p hp => h.panw p (by rw [hpq]; simp [hp]))
        exact this
    · rw [hd2] at hp
      rw [if_pos rfl] at hp
      have key : ∀ ps : List (Int × Bool), (bl = [] → ∀ v r ps', ps = (v, r) :: ps' → settleI1 (grs rs) false st = some (({ st with frames := [], panics := ps } : IMc).over 2 v)) → (bl ≠ [] → settleI1 (grs rs) false st = some { st with frames := bl, panics := ps }) → ps.length = n3I bl + 1 → (∀ p ∈ ps, isW p.1) → ps.length ≤ st.steps →
          ∃ st', settleI1 (grs rs) false st = some st' ∧ GoodI (grs rs) st' ∧ st'.steps = st.steps ∧ (st'.doing = 0 ∨ st'.doing = 3 ∨ (st'.doing = 1 ∨ st'.doing = 2) ∧ st'.frames.length < (t :: bl).length) := by
        intro ps hs0 hs1 hpl hpw hpx
        rcases bl with _ | ⟨b, bl⟩
        · rcases ps with _ | ⟨⟨v, rc⟩, ps⟩
          · simp at hpl
          have hg := good_pop (fr := []) (dg := 3) (kk := 2) (vv := v) (ps := (v, rc) :: ps) h (.inr hd2) hf hds hFb hcf rfl rfl hsb (fun h => absurd rfl h) (by omega) (fun h => absurd rfl h) hpx hpw
          exact ⟨_, hs0 rfl v rc ps rfl, hg, rfl, .inr (.inl rfl)⟩
        · refine ⟨_, hs1 (by simp), ?_, rfl, .inr (.inr ⟨.inr hd2, by simp⟩)⟩
          have := good_pop (dg := st.doing) (kk := st.endk) (vv := st.endv) (ps := ps) h (.inr hd2) hf hds hFb (by rw [hd2]; exact hcf) rfl rfl hsb (fun _ => by simp) (by omega) (fun _ => by rw [hd2, hpl]; simp) hpx hpw
          exact this
      have hn1 : ¬ st.doing = 1 := by omega
      by_cases y3 : t.why = 3
      · rw [hn3, if_pos y3] at hp
        rcases hpq : st.panics with _ | ⟨p, _ | ⟨q, ps⟩⟩
        · rw [hpq] at hp; simp only [List.length_nil] at hp; omega
        · rw [hpq] at hp; simp only [List.length_cons, List.length_nil] at hp; omega
        · rw [hpq] at hp h3
          simp only [List.length_cons] at hp h3
          exact key (p :: ps) (fun hb v r ps' he => by subst hb; injection he with he _; subst he; simp [settleI1, hf, hds, hn1, y3, hpq]) (fun hb => by rcases bl with _ | ⟨b, bl⟩; exact absurd rfl hb; simp [settleI1, hf, hds, hn1, y3, hpq]) (by simp only [List.length_cons]; omega) (fun x hx => h.panw x (by rw [hpq]; rcases List.mem_cons.1 hx with rfl | hx <;> simp [*])) (by simp only [List.length_cons]; omega)
      · rw [hn3, if_neg y3] at hp
        exact key st.panics (fun hb v r ps' he => by subst hb; simp [settleI1, hf, hds, hn1, y3, he]) (fun hb => by rcases bl with _ | ⟨b, bl⟩; exact absurd rfl hb; simp [settleI1, hf, hds, hn1, y3]) (by omega) h.panw h3
  · -- a deferred call
    have hdm : d ∈ t.defs := by rw [hds]; simp
    obtain ⟨d1, d2, d4⟩ := hF.defs d hdm
    have hwt2 : st.waiting = ds.length + 1 + ndsI bl := by rw [hwt, ndsI, hds, List.length_cons]
    have hbg : st.begun ≤ st.steps := by rcases h0 with h0 | h0 <;> omega
    refine ⟨({ st.top { t with defs := ds } bl with waiting := st.waiting - 1 } : IMc).begin (grs rs) false (if st.doing = 1 then 2 else 3) d.fn d.args, ?_, ?_, rfl, .inl rfl⟩
    · simp only [settleI1, hf, hds]
      rw [if_pos (by omega)]
    · refine begin_good hv (fun x hx => ?_) ?_ h.hid h.kb h.regs (fun he => (by cases he)) d1 (by split <;> omega) d4 ?_ h.panw ?_ h.tape (fun x hx => ?_) hbg (by show (_ :: bl).length ≤ st.steps; simpa using h1) h2 h3 h4 (by show st.waiting - 1 ≤ st.steps; omega) h6 h7
      · rcases List.mem_cons.1 hx with rfl | hx
        · exact ⟨hF.f, hF.why, hF.num, hF.wds, fun d hd => hF.defs d (by rw [hds]; simp [hd])⟩
        · exact hFb x hx
      · rw [if_neg (by split <;> omega)]
        exact ⟨fun h => (by omega), fun h => (by cases h), hne, hsd, hcb⟩
      · show st.panics.length = n3I (_ :: bl) + _
        rw [hp]
        rcases hd with hd | hd <;> simp [hd, n3I]
      · show st.waiting - 1 = ndsI (_ :: bl)
        simp only [ndsI]
        omega
      · rcases List.mem_cons.1 hx with rfl | hx
        · exact hsr t (by simp)
        · exact hsb x hx
theorem settle_good (hv : valid (grs rs) false) : ∀ (n : Nat) (st : IMc), st.frames.length ≤ n → GoodI (grs rs) st → st.steps ≤ 1000001 → ∃ N st', settleI (grs rs) false N st = some st' ∧ IBds rs false N st ∧ GoodI (grs rs) st' ∧ st'.steps = st.steps ∧ (st'.doing = 0 ∨ st'.doing = 3)
  | n, st, hl, h, hs => by
    by_cases hd : st.doing = 1 ∨ st.doing = 2
    · obtain ⟨st', e1, e2, e3, e4⟩ := settle1_good hv h hd
      have hR := h.bd hs
      have fin : ∀ N st2, settleI (grs rs) false N st' = some st2 → IBds rs false N st' → settleI (grs rs) false (N + 1) st = some st2 ∧ IBds rs false (N + 1) st := by
        intro N st2 h1 h2
        refine ⟨?_, hR, fun x hx => ?_⟩
        · unfold settleI
          rw [if_pos hd, e1]
          exact h1
        · rw [e1] at hx
          injection hx with hx
          subst hx
          exact h2
      have stop : st'.doing = 0 ∨ st'.doing = 3 → ∃ N st2, settleI (grs rs) false N st = some st2 ∧ IBds rs false N st ∧ GoodI (grs rs) st2 ∧ st2.steps = st.steps ∧ (st2.doing = 0 ∨ st2.doing = 3) := by
        intro h0
        have h1 : settleI (grs rs) false 1 st' = some st' := by unfold settleI; rw [if_neg (by omega)]
        obtain ⟨h2, h3⟩ := fin 1 st' h1 ⟨e2.bd (by omega), fun _ _ => trivial⟩
        exact ⟨2, st', h2, h3, e2, e3, h0⟩
      rcases e4 with h0 | h0 | ⟨h0, hlt⟩
      · exact stop (.inl h0)
      · exact stop (.inr h0)
      · cases n with
        | zero => omega
        | succ n =>
          obtain ⟨N, st2, a1, a2, a3, a4, a5⟩ := settle_good hv n st' (by omega) e2 (by omega)
          obtain ⟨h2, h3⟩ := fin N st2 a1 a2
          exact ⟨N + 1, st2, h2, h3, a3, by omega, a5⟩
    · exact ⟨1, st, by unfold settleI; rw [if_neg hd], ⟨h.bd hs, fun _ _ => trivial⟩, h, rfl, by have := h.doing; omega⟩
end
end Go.Proofs.Ytlnccpojldiogaa

/-
  Events compared: the document's Begins and Same, over a run's events.
-/
namespace Go.Proofs.Ytlnccpojldiogaa
set_option linter.unusedVariables false
set_option linter.unusedSimpArgs false
open Go.ChangeShapes Go.WideShapes Go.ChangeAt Go.RowKit

theorem length_ievc (l : List (Int × Int)) : (ievc l).length = l.length * 2 := by
  induction l with
  | nil => rfl
  | cons p l ih => unfold ievc at *; rw [List.flatMap_cons, List.length_append, ih]; simp; omega
theorem evc_kind (l : List (Int × Int)) (j : Nat) (p : (Int × Int)) (h : l[j]? = some p) : (ievc l)[j * 2]? = some (.int .i64 p.1) := by
  induction l generalizing j with
  | nil => simp at h
  | cons q l ih =>
    cases j with
    | zero => simp at h; subst h; rfl
    | succ j =>
      have e : (ievc (q :: l)) = .int .i64 q.1 :: .int .u64 q.2 :: ievc l := rfl
      rw [e, show (j + 1) * 2 = j * 2 + 1 + 1 by omega, List.getElem?_cons_succ, List.getElem?_cons_succ]
      exact ih j (by simpa using h)
theorem evc_value (l : List (Int × Int)) (j : Nat) (p : (Int × Int)) (h : l[j]? = some p) : (ievc l)[j * 2 + 1]? = some (.int .u64 p.2) := by
  induction l generalizing j with
  | nil => simp at h
  | cons q l ih =>
    cases j with
    | zero => simp at h; subst h; rfl
    | succ j =>
      have e : (ievc (q :: l)) = .int .i64 q.1 :: .int .u64 q.2 :: ievc l := rfl
      rw [e, show (j + 1) * 2 + 1 = j * 2 + 1 + 1 + 1 by omega, List.getElem?_cons_succ, List.getElem?_cons_succ]
      exact ih j (by simpa using h)

theorem Reads.ev {w : World} {B n : Nat} {A : Option Addr} {l : List (Int × Int)} (h : Reads w B 2 A n (ievc l)) (hn : l.length = n) {k : Nat} (hk : k < n) :
    ∃ b off x, A = some ⟨b, off, none⟩ ∧ b < B ∧ Hid (l[k]? = some x) ∧ w.cell? ⟨b, off + k * 2, none⟩ = some (.int .i64 x.1) ∧ w.cell? ⟨b, off + k * 2 + 1, none⟩ = some (.int .u64 x.2) := by
  obtain ⟨b, off, rfl, hb, hc⟩ := h.lit (by omega) (by omega)
  have hl : k < l.length := by omega
  exact ⟨b, off, l[k], rfl, hb, List.getElem?_eq_getElem hl, hc _ _ (evc_kind _ _ _ (List.getElem?_eq_getElem hl)), by rw [Nat.add_assoc]; exact hc _ _ (evc_value _ _ _ (List.getElem?_eq_getElem hl))⟩

theorem equalIn_ev (a b : (Int × Int)) (w : World) : Sem.run Try.prog (Op.equalIn 10000 79 (.agg #[.int .i64 a.1, .int .u64 a.2]) (.agg #[.int .i64 b.1, .int .u64 b.2])) w = .ok (decide (a = b)) w := by
  have hS : Try.prog.underlying 79 = some (.struct (Try.prog.fieldsOf 79)) := by kernel_rfl
  have hp : Try.prog.stoodInHeld 79 = false := by kernel_rfl
  have u3 := Try.underlying77
  have u26 := Try.underlying30
  have a3 := Try.isAgg77
  have a26 := Try.isAgg30
  have z3 := Try.sizeOf77
  have z26 := Try.sizeOf30
  show (Op.equalIn 10000 79 (.agg #[.int .i64 a.1, .int .u64 a.2]) (.agg #[.int .i64 b.1, .int .u64 b.2])).run Try.prog w = _
  rw [show (10000 : Nat) = 9999 + 1 from rfl, run_equalIn_agg w 9999 79 _ _ hS hp]
  simp only [Program.fieldsOf, Try.underlying79]
  go_simp
  obtain ⟨a1, a2⟩ := a
  obtain ⟨b1, b2⟩ := b
  by_cases h1 : a1 = b1 <;> by_cases h2 : a2 = b2 <;> simp [h1, h2]
theorem equalIn_end (a b : (Int × Int)) (w : World) : Sem.run Try.prog (Op.equalIn 10000 32 (.agg #[.int .i64 a.1, .int .u64 a.2]) (.agg #[.int .i64 b.1, .int .u64 b.2])) w = .ok (decide (a = b)) w := by
  have hS : Try.prog.underlying 32 = some (.struct (Try.prog.fieldsOf 32)) := by kernel_rfl
  have hp : Try.prog.stoodInHeld 32 = false := by kernel_rfl
  have u3 := Try.underlying29
  have u26 := Try.underlying30
  have a3 := Try.isAgg29
  have a26 := Try.isAgg30
  have z3 := Try.sizeOf29
  have z26 := Try.sizeOf30
  show (Op.equalIn 10000 32 (.agg #[.int .i64 a.1, .int .u64 a.2]) (.agg #[.int .i64 b.1, .int .u64 b.2])).run Try.prog w = _
  rw [show (10000 : Nat) = 9999 + 1 from rfl, run_equalIn_agg w 9999 32 _ _ hS hp]
  simp only [Program.fieldsOf, Try.underlying32]
  go_simp
  obtain ⟨a1, a2⟩ := a
  obtain ⟨b1, b2⟩ := b
  by_cases h1 : a1 = b1 <;> by_cases h2 : a2 = b2 <;> simp [h1, h2]
/-- are a's events b's first ones? -/
def beg (a b : List (Int × Int)) : Bool := decide (a = b.take a.length)
/-- are they the same? -/
def sam (a b : List (Int × Int)) : Bool := decide (a = b)

theorem beg_long {a b : List (Int × Int)} (h : b.length < a.length) : beg a b = false := by
  unfold beg
  simp only [decide_eq_false_iff_not]
  intro h
  have := congrArg List.length h
  rw [List.length_take] at this
  omega
theorem sam_len {a b : List (Int × Int)} (h : a.length ≠ b.length) : sam a b = false := by
  unfold sam
  simp only [decide_eq_false_iff_not]
  intro e
  exact h (by rw [e])
theorem ev_snoc {l : List (Int × Int)} {k : Nat} {x : Int × Int} (h : l[k]? = some x) : l.take (k + 1) = l.take k ++ [x] := by
  rw [List.take_add_one, h]; rfl
theorem beg_ne {a b : List (Int × Int)} {k : Nat} {x y : Int × Int} (hx : a[k]? = some x) (hy : b[k]? = some y) (h : x ≠ y) : beg a b = false := by
  unfold beg
  simp only [decide_eq_false_iff_not]
  intro e
  have hk : k < a.length := (List.getElem?_eq_some_iff.1 hx).1
  rw [e, List.getElem?_take, if_pos hk, hy] at hx
  exact h (by simpa using hx.symm)
theorem sam_ne {a b : List (Int × Int)} {k : Nat} {x y : Int × Int} (hx : a[k]? = some x) (hy : b[k]? = some y) (h : x ≠ y) : sam a b = false := by
  unfold sam
  simp only [decide_eq_false_iff_not]
  intro e
  rw [e, hy] at hx
  exact h (by simpa using hx.symm)
theorem beg_yes {a b : List (Int × Int)} (h : b.take a.length = a.take a.length) : beg a b = true := by
  unfold beg
  simp only [decide_eq_true_eq]
  rw [h, List.take_length]
theorem sam_yes {a b : List (Int × Int)} (hl : a.length = b.length) (h : b.take a.length = a.take a.length) : sam a b = true := by
  unfold sam
  simp only [decide_eq_true_eq]
  rw [List.take_length, hl, List.take_length] at h
  exact h.symm
theorem sam_beg {a b : List (Int × Int)} (hl : a.length = b.length) : sam a b = beg a b := by
  unfold sam beg
  rw [hl, List.take_length]
theorem beg_sam {a b : List (Int × Int)} {n : Nat} (hl : a.length = n) : beg a b = sam a (b.take n) := by
  unfold sam beg
  rw [hl]

set_option maxHeartbeats 800000 in
theorem begins_any (B : Nat) (ao bo : Option Addr) (n m c d : Nat) (la lb : List (Int × Int)) (w : World) (ha : Reads w B 2 ao n (ievc la)) (hb : Reads w B 2 bo m (ievc lb)) (hn : la.length = n) (hm : lb.length = m)
    (hnb : n ≤ maxLen) (hmb : m ≤ maxLen) :
    Calls Try.prog 12 #[.slice ao n c, .slice bo m d] w fun e w' => e = .returned (.bool (beg la lb)) ∧ ∃ q, w' = w.drewN q := by
  unfold maxLen at hnb hmb
  have HA := Lib.hid ha
  have HB := Lib.hid hb
  have HN := Lib.hid hn
  have HM := Lib.hid hm
  clear ha hb hn hm
  by_cases hgt : m < n
  · have hr : beg la lb = false := beg_long (by rw [HN.out, HM.out]; exact hgt)
    have HR := Lib.hid hr
    clear hr
    go_enter Try.func12, Try.ntmps12
    go_wp2
    go_ret
    exact ⟨by rw [HR.out]; rfl, 0, rfl⟩
  · go_enter Try.func12, Try.ntmps12
    go_wp2
    go_loopw [13] (fun i wr => ∃ k q : Nat, k ≤ n ∧ i = .int .i64 k ∧ Hid (lb.take k = la.take k) ∧ wr = w.drewN q) (fun i _ => n - (intOf i).toNat)
    case atStart => exact ⟨0, 0, Nat.zero_le _, rfl, rfl, rfl⟩
    case round =>
      obtain ⟨k, q, hk, rfl, HP, rfl⟩ := hrel
      by_cases hlt : k < n
      · obtain ⟨b1, o1, x, rfl, hb1, HX, x1, x2⟩ := HA.out.ev HN.out hlt
        obtain ⟨b2, o2, y, rfl, hb2, HY, y1, y2⟩ := HB.out.ev HM.out (k := k) (by omega)
        have he : ∀ W, Sem.run Try.prog (Op.equalIn 10000 79 (.agg #[.int .i64 x.1, .int .u64 x.2]) (.agg #[.int .i64 y.1, .int .u64 y.2])) W = .ok (decide (x = y)) W := equalIn_ev x y
        by_cases hxy : x = y
        · have hd : decide (x = y) = true := by simpa using hxy
          rw [hd] at he
          have HXY := Lib.hid hxy
          clear hxy hd
          go_wp2
          go_quiet (fail)
          go_wp2
          go_roundw
          case rel => exact ⟨k + 1, q + nq, by omega, by go_num, by show lb.take (k + 1) = la.take (k + 1); rw [ev_snoc HX.out, ev_snoc HY.out, HP.out, HXY.out], rfl⟩
          case measure => simp [intOf]; omega
        · have hd : decide (x = y) = false := by simpa using hxy
          rw [hd] at he
          have hr : beg la lb = false := beg_ne HX.out HY.out hxy
          have HR := Lib.hid hr
          clear hxy hd hr
          go_wp2
          go_quiet (fail)
          go_wp2
          go_ret
          exact ⟨by rw [HR.out]; rfl, q + nq, World.drewN_drewN _ _ _⟩
      · obtain rfl : k = n := by omega
        have hr : beg la lb = true := by
          have h := HP.out
          rw [← HN.out] at h
          exact beg_yes h
        have HR := Lib.hid hr
        clear hr
        go_wp2
        go_ret
        exact ⟨by rw [HR.out]; rfl, _, rfl⟩

theorem refsame_any (B : Nat) (ao bo : Option Addr) (n m c d : Nat) (la lb : List (Int × Int)) (w : World) (ha : Reads w B 2 ao n (ievc la)) (hb : Reads w B 2 bo m (ievc lb)) (hn : la.length = n) (hm : lb.length = m)
    (hnb : n ≤ maxLen) (hmb : m ≤ maxLen) :
    Calls Try.prog 11 #[.slice ao n c, .slice bo m d] w fun e w' => e = .returned (.bool (sam la lb)) ∧ ∃ q, w' = w.drewN q := by
  have HE := Lib.hid (begins_any B ao bo n m c d la lb w ha hb hn hm hnb hmb)
  unfold maxLen at hnb hmb
  by_cases heq : n = m
  · subst heq
    have hr : beg la lb = sam la lb := (sam_beg (hn.trans hm.symm)).symm
    have HR := Lib.hid hr
    clear ha hb hn hm hr
    go_enter Try.func11, Try.ntmps11
    go_wp2_with (go_at_call 12; refine HE.out.mono ?_; rintro e w' ⟨rfl, q, rfl⟩)
    go_ret
    exact ⟨by rw [← HR.out]; rfl, q, rfl⟩
  · have hr : sam la lb = false := sam_len (by rw [hn, hm]; exact heq)
    have HR := Lib.hid hr
    clear ha hb hn hm hr
    go_enter Try.func11, Try.ntmps11
    go_wp2
    go_ret
    exact ⟨by rw [HR.out]; rfl, 0, rfl⟩

end Go.Proofs.Ytlnccpojldiogaa
