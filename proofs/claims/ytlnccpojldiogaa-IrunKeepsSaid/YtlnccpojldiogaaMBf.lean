/-
  Texts of one seat, one behind the other: IBeg, IBegV, IInv.
-/
import Derived.LoopTactic
import Derived.Deep.LoopGhost
import Derived.Test.YtlnccpojldiogaaMBd
import Derived.Test.YtlnccpojldiogaaMBc

/-
  Package irun: a frame is made; a run with a frame that is in no row yet.
-/
namespace Go.Proofs.Ytlnccpojldiogaa
set_option linter.unusedVariables false
set_option linter.unusedSimpArgs false
open Go.ChangeShapes Go.WideShapes Go.ChangeAt Go.RowKit

/-- a new frame -/
def newFr (gs : List Gr) (why k serial : Nat) : IFr := ⟨why, k, serial, (grOf gs k).entry, fun _ => 0, [], 0, 0, List.replicate 16 0⟩
def callC (fa fo why k serial : Nat) (at_ : Int) : Array Value := #[.pointer (some ⟨fa, fo + k * 8, none⟩), .int .i64 why, .int .u64 serial, .int .i64 at_, .slice none 0 0, .slice none 0 0, .int .u64 0]
def nfF (bd : Bool) : FuncId := if bd = true then 24 else 22
def nfA (bd : Bool) (rgb : Nat) : Array Value := if bd = true then #[.pointer (some ⟨rgb, 0, none⟩)] else #[]
section
variable {w0 W W' : World} {ow ow' : Nat → Nat} {ex : Nat → Prop} {bd : Bool} {base rb tg fa fo rgb n c k : Nat} {rs : List RG} {st st' : IMc} {g g' : IRG} {t t' : IFr} {bl : List IFr} {gl : List Nat} {fb b o : Nat} {r : RG} {p x : Int}
set_option maxRecDepth 100000 in
set_option maxHeartbeats 1600000 in
theorem newFrame_any (gs : List Gr) (why k serial : Nat) (W : World) :
    Calls Try.prog (nfF bd) (nfA bd rgb ++ #[.agg (callC fa fo why k serial (grOf gs k).entry)]) W fun e w' => e = .returned (ifrV bd (W.heap.size + 1)) ∧ w' = (W.alloc (.cells (callC fa fo why k serial (grOf gs k).entry) 133)).alloc (.cells (ifrC bd fa fo rgb (newFr gs why k serial) ⟨W.heap.size + 1, .slice none 0 0, [], .slice none 0 0, []⟩) (ifrT bd)) := by
  unfold ifrV nfF nfA callC ifrC newFr ifrT
  obtain ⟨y, hy⟩ : ∃ y, y = (grOf gs k).entry := ⟨_, rfl⟩
  simp only [← hy]
  clear hy
  cases bd
  · simp only [ptrI, ifrP, Bool.false_eq_true, if_false]
    go_enter Try.func22, Try.ntmps22
    go_wp2
    go_ret
    exact ⟨rfl, rfl⟩
  · simp only [ptrI, ifrP, if_true]
    go_enter Try.func24, Try.ntmps24
    go_wp2
    go_ret
    exact ⟨rfl, rfl⟩
theorem ifrVs_cons {fg : IG} {gs : List IG} : ifrVs bd (fg :: gs) = ifrVs bd gs ++ [ifrV bd fg.fb] := by
  unfold ifrVs; simp
theorem length_ifrVs {gs : List IG} : (ifrVs bd gs).length = gs.length := by unfold ifrVs; simp
/-- a frame is made, and stands in no row yet -/
theorem IRunX.fresh (why k : Nat) (h : IRunX w0 bd rb tg fa fo n c rs st gl rgb W) (h0 : st.hidn = 0) :
    IRunX w0 bd rb tg fa fo n c rs { st with frames := newFr (grs rs) why k st.begun :: st.frames, hidn := 1 } (W.heap.size :: gl) rgb (W.alloc (.cells (ifrC bd fa fo rgb (newFr (grs rs) why k st.begun) ⟨W.heap.size, .slice none 0 0, [], .slice none 0 0, []⟩) (ifrT bd))) := by
  obtain ⟨g, ow, hR, rfl, rfl⟩ := h
  obtain ⟨m, hm⟩ : ∃ m, m = st.frames.length := ⟨_, rfl⟩
  have hb : Below W.heap.size W (W.alloc (.cells (ifrC bd fa fo g.rgb (newFr (grs rs) why k st.begun) ⟨W.heap.size, .slice none 0 0, [], .slice none 0 0, []⟩) (ifrT bd))) := (Below.refl _ _).alloc (Nat.le_refl _) _
  have kr : Kr (fun _ => False) ow (up ow W.heap.size (5 * m + 11)) W _ := Kr.of_new hb ow (5 * m + 11) _
  have hl := hR.frames.len
  have hfrs := (hR.frs0 h0).kr kr (fun h => h)
  refine ⟨{ g with gs := ⟨W.heap.size, .slice none 0 0, [], .slice none 0 0, []⟩ :: g.gs }, _, hR.part (st' := { st with frames := newFr (grs rs) why k st.begun :: st.frames, hidn := 1 }) (g' := { g with gs := ⟨W.heap.size, .slice none 0 0, [], .slice none 0 0, []⟩ :: g.gs }) kr (fun h => h) (hR.run.kr kr (fun h => h)) ?_ ⟨?_, hR.frames.kr kr (fun h => h) fun x h1 h2 h => h⟩ (fun hb => ⟨(hR.regs hb).1.kr kr (fun h => h), (hR.regs hb).2⟩) (hR.pan.kr kr (fun h => h)) (hR.tr.kr kr (fun h => h) (fun h => h) (fun h => h)) hR.res fun hd => (hR.done hd).kr kr (fun h => h), rfl, rfl⟩
  · show OR _ _ _ _ _ _ _ ((newFr (grs rs) why k st.begun :: st.frames).length - 1) ((ifrVs bd (_ :: g.gs)).take _)
    rw [ifrVs_cons, List.length_cons, Nat.add_sub_cancel, List.take_append_of_le_length (by rw [length_ifrVs]; omega), List.take_of_length_le (by rw [length_ifrVs]; omega)]
    exact hfrs
  · rw [← hm]
    exact ⟨⟨Blk.new _ _ _, up_new (Nat.le_refl _), hR.below.size⟩, PgAt.new _ _ _ _ _, ⟨own_none _ _ _ _, fun q hq => by cases hq⟩, fun j d hj => by simp [newFr] at hj, rfl, by simp, fun _ => by simp [newFr]⟩
/-- words that are read while a frame is made -/
def kbOf (AA : Option Addr) (args : List Int) : List (Addr × List Value) := match args, AA with
  | _ :: _, some ad => [(ad, u64c args)]
  | _, _ => []
theorem IRunA.kb_ {AA : Option Addr} {p : Nat} {args : List Int} (h : IRunA w0 bd rb tg fa fo n c rs st gl rgb AA p args W) : IRunX w0 bd rb tg fa fo n c rs { st with kb := kbOf AA args } gl rgb W := by
  obtain ⟨g, ow, hR, h2, h3, h4, h5⟩ := h
  refine ⟨g, ow, ⟨hR.run, hR.frs, hR.frames, hR.regs, hR.pan, hR.tr, hR.res, hR.done, hR.prog, hR.val, hR.below, hR.frn, fun x hx => ?_⟩, h2, h3⟩
  cases args with
  | nil => cases AA <;> cases hx
  | cons a l =>
    have hl := h4.1
    simp only [u64c, List.map_cons, List.length_cons, Nat.mul_one] at hl
    obtain ⟨ad, rfl, h6, h7⟩ := h4.2 (by omega)
    have hx' : x = (ad, u64c (a :: l)) := by simpa [kbOf] using hx
    subst hx'
    exact ⟨h5 ad rfl, h6, fun j y hy => h7 j _ hy⟩
/-- a block more of that kind -/
theorem IRunX.box (cs : Array Value) (ty : TypeId) (h : IRunX w0 bd rb tg fa fo n c rs st gl rgb W) : IRunX w0 bd rb tg fa fo n c rs { st with kb := (⟨W.heap.size, 0, none⟩, cs.toList) :: st.kb } gl rgb (W.alloc (.cells cs ty)) := by
  obtain ⟨g, ow, hR, h2, h3⟩ := h
  have hb : Below W.heap.size W (W.alloc (.cells cs ty)) := (Below.refl _ _).alloc (Nat.le_refl _) _
  have kr : Kr (fun _ => False) ow (up ow W.heap.size 8) W _ := Kr.of_new hb ow 8 _
  have hR1 : IRunAt w0 bd rb tg fa fo n c rs st g (up ow W.heap.size 8) (W.alloc (.cells cs ty)) := hR.part kr (fun h => h) (hR.run.kr kr (fun h => h)) (hR.frs.kr kr (fun h => h)) (hR.frames.kr kr (fun h => h) fun x h1 h2 h => h) (fun hb => ⟨(hR.regs hb).1.kr kr (fun h => h), (hR.regs hb).2⟩) (hR.pan.kr kr (fun h => h)) (hR.tr.kr kr (fun h => h) (fun h => h) (fun h => h)) hR.res fun hd => (hR.done hd).kr kr (fun h => h)
  refine ⟨g, _, ⟨hR1.run, hR1.frs, hR1.frames, hR1.regs, hR1.pan, hR1.tr, hR1.res, hR1.done, hR1.prog, hR1.val, hR1.below, hR1.frn, fun x hx => ?_⟩, h2, h3⟩
  rcases List.mem_cons.1 hx with rfl | hx
  · refine ⟨up_new (Nat.le_refl _), by simp, fun j y hy => ?_⟩
    have ea : (⟨W.heap.size, 0, none⟩ : Addr).add j = ⟨W.heap.size, j, none⟩ := by simp [Addr.add]; exact Eq.symm
    show (W.alloc (.cells cs ty)).cell? ((⟨W.heap.size, 0, none⟩ : Addr).add j) = some y
    rw [ea, (Blk.new W ty cs).cell, ← Array.getElem?_toList]
    exact hy
  · exact hR1.arg x hx
/-- .. and are read -/
theorem IRunX.kbAt {ad : Addr} {xs : List Value} {j : Nat} {y : Value} (h : IRunX w0 bd rb tg fa fo n c rs st gl rgb W) (hx : (ad, xs) ∈ st.kb) (hj : xs[j]? = some y) : ad.block < W.heap.size ∧ W.cell? (ad.add j) = some y := by
  obtain ⟨g, ow, hR, _⟩ := h
  obtain ⟨_, b2, b3⟩ := hR.arg _ hx
  exact ⟨b2, b3 j y hj⟩
theorem IRunX.kb0 (h : IRunX w0 bd rb tg fa fo n c rs st gl rgb W) : IRunX w0 bd rb tg fa fo n c rs { st with kb := [] } gl rgb W := by
  obtain ⟨g, ow, hR, h2, h3⟩ := h
  exact ⟨g, ow, ⟨hR.run, hR.frs, hR.frames, hR.regs, hR.pan, hR.tr, hR.res, hR.done, hR.prog, hR.val, hR.below, hR.frn, fun x hx => by cases hx⟩, h2, h3⟩
end
end Go.Proofs.Ytlnccpojldiogaa

/-
  Package irun: begin: a frame is made, gets its arguments, and becomes the last one.
-/
namespace Go.Proofs.Ytlnccpojldiogaa
set_option linter.unusedVariables false
set_option linter.unusedSimpArgs false
open Go.ChangeShapes Go.WideShapes Go.ChangeAt Go.RowKit

theorem info_frm : (Try.prog.info? 135).map (fun i => (i.zero, i.size, i.bytes)) = some (some .nilIface, 1, 16) := by kernel_rfl
theorem app_frm {w : World} {ops : Array Oper} {rest : List Oper} {o : Oper} {a : Act} {Q : Exit → Act → World → Prop} (hgd : o.guard = none) (s x : Operand)
    (ho : o.op = .call { callee := .builtin .append, args := #[s, x], argTypes := #[87, 87] }) (base : Nat)
    (v : Value) (n : Nat) (xs : List Value) (hs : a.eval s = v) (hown : w.ownsRow base 135 1 v n xs)
    (B : Nat) (A : Option Addr) (m c : Nat) (news : List Value) (hx : a.eval x = .slice A m c) (hr : Reads w B 1 A m news) (h1 : ∀ u ∈ news, u.oneCell' = true)
    (hbytes : (n + m) * 16 ≤ 140737488355328) (hbase : base ≤ w.heap.size)
    (h : ∀ v' w', w'.ownsRow base 135 1 v' (n + m) (xs ++ news) → w.grownBy w' v.ownBlock → (v'.ownBlock = v.ownBlock ∨ v'.ownBlock = some w.heap.size) → wpList Try.prog ops Q rest (a.put o.dst v') w') : wpList Try.prog ops Q (o :: rest) a w := by
  obtain ⟨i0, hi, hz0, hz1, hz2⟩ := info_parts info_frm
  exact wpList_append_any w hgd s x _ ho base 135 i0 .nilIface 1 16 Try.underlying87 hi hz0 hz1 hz2 rfl (by decide) v n xs hs hown B A m c news hx hr h1 (by unfold maxLen; omega) hbytes hbase h
theorem reads_new (W : World) (t : TypeId) (u : Value) : Reads (W.alloc (.cells #[u] t)) (W.heap.size + 1) 1 (some ⟨W.heap.size, 0, none⟩) 1 [u] := ⟨rfl, fun _ => ⟨_, rfl, by simp, fun j x hj => by
  have ea : (⟨W.heap.size, 0, none⟩ : Addr).add j = ⟨W.heap.size, j, none⟩ := by simp [Addr.add]; exact Eq.symm
  rw [ea, (Blk.new W _ _).cell]
  simpa using hj⟩⟩
section
variable {w0 W W' : World} {ow ow' : Nat → Nat} {ex : Nat → Prop} {bd : Bool} {base rb tg fa fo rgb n c k : Nat} {rs : List RG} {st st' : IMc} {g g' : IRG} {t t' : IFr} {bl : List IFr} {gl : List Nat} {fb b o : Nat} {r : RG} {p x : Int}
/-- a run with a frame that is in no row yet, whose arguments are laid up to j -/
def LayI (w0 : World) (bd : Bool) (rb tg fa fo n c : Nat) (rs : List RG) (st : IMc) (gl : List Nat) (fb rgb : Nat) (r : RG) (kb : List (Addr × List Value)) (args : List Int) (X : List Int × IFr) (j : Nat) (W : World) : Prop :=
  ∃ rg t, IRunX w0 bd rb tg fa fo n c rs { st with frames := t :: st.frames, regs := rg, hidn := 1, kb := kb } (fb :: gl) rgb W ∧ rs[t.f]? = some r ∧ layP (grs rs) bd (r.gr.params.drop j) (r.gr.init.drop j) (args.drop j) (rg, t) = X
def laidT (gs : List Gr) (bd : Bool) (t : IFr) (p cl a : Int) : IFr := if cl = -1 then putT gs bd t p a else { putT gs bd t p a with words := put1 (putT gs bd t p a).words cl.toNat a }
theorem lay_step {args : List Int} {X : List Int × IFr} {j : Nat} {p cl a : Int} {rg : List Int} {t : IFr} (hp : r.gr.params[j]? = some p) (hc : r.gr.init[j]? = some cl) (ha : args[j]? = some a)
    (h : layP (grs rs) bd (r.gr.params.drop j) (r.gr.init.drop j) (args.drop j) (rg, t) = X) : layP (grs rs) bd (r.gr.params.drop (j + 1)) (r.gr.init.drop (j + 1)) (args.drop (j + 1)) (putR bd rg p a, laidT (grs rs) bd t p cl a) = X := by
  obtain ⟨p1, p2⟩ := List.getElem?_eq_some_iff.1 hp
  obtain ⟨c1, c2⟩ := List.getElem?_eq_some_iff.1 hc
  obtain ⟨a1, a2⟩ := List.getElem?_eq_some_iff.1 ha
  rw [List.drop_eq_getElem_cons p1, List.drop_eq_getElem_cons c1, List.drop_eq_getElem_cons a1, p2, c2, a2] at h
  exact h
theorem putT_f8 (gs : List Gr) (t : IFr) (p v : Int) : (putT gs bd t p v).f = t.f := by unfold putT; split <;> rfl
theorem laidT_f (gs : List Gr) (t : IFr) (p cl v : Int) : (laidT gs bd t p cl v).f = t.f := by unfold laidT; split <;> exact putT_f8 _ _ _ _
/-- a graph's head, as far as a call asks -/
theorem head_lay (hv : valid (grs rs) bd) (hr : rs[k]? = some r) : r.gr.params.length ≤ 4 ∧ r.gr.init.length = r.gr.params.length ∧ (∀ (j : Nat) q, r.gr.params[j]? = some q → PlOk r q) ∧ ∀ (j : Nat) cl, r.gr.init[j]? = some cl → cl = -1 ∨ 0 ≤ cl ∧ cl < 64 := by
  obtain ⟨⟨_, h16, _⟩, c1, c2, ⟨h4, hps⟩, ⟨hil, his⟩, _⟩ := val_head hv hr
  refine ⟨h4, hil, fun j q hq => ?_, fun j cl hcl => ?_⟩
  · obtain ⟨hj, e⟩ := List.getElem?_eq_some_iff.1 hq
    have eq : r.gr.params.getD j 0 = q := by rw [List.getD_eq_getElem?_getD, hq]; rfl
    by_cases hb : bd = true
    · rw [if_pos hb] at hps
      have h1 := hps j hj
      have h2 := h16 hb
      rw [eq] at h1
      exact ⟨by omega, by omega⟩
    · rw [if_neg hb] at hps
      have h1 := (hps j hj).1
      rw [eq] at h1
      exact h1
  · obtain ⟨hj, e⟩ := List.getElem?_eq_some_iff.1 hcl
    have eq : r.gr.init.getD j 0 = cl := by rw [List.getD_eq_getElem?_getD, hcl]; rfl
    have h1 := his j hj
    rw [eq] at h1
    rcases h1 with h1 | ⟨⟨h1, h2⟩, _⟩
    · exact .inl h1
    · exact .inr ⟨h1, by omega⟩
/-- the run's object, where a frame begins -/
theorem IRunX.cells3 (h : IRunX w0 bd rb tg fa fo n c rs st gl rgb W) : rb < W.heap.size ∧ W.cell? ⟨rb, 0, none⟩ = some (.slice (some ⟨fa, fo, none⟩) n c) ∧ W.cell? ⟨rb, 1, none⟩ = some (nfV bd rgb) ∧ W.cell? ⟨rb, 4, none⟩ = some (.int .u64 st.begun) ∧ W.frozen? ⟨rb, 4, none⟩ = false := by
  obtain ⟨g, ow, hR, _, rfl⟩ := h
  exact ⟨hR.run.blk.lt, hR.run.blk.cell 0, hR.run.blk.cell 1, hR.run.blk.cell 4, hR.run.blk.frozen 4⟩
/-- what the last frame's row needs, where it gets one more -/
theorem IRunX.push {m : Nat} {Y : Value} (h : IRunX w0 bd rb tg fa fo n c rs st (fb :: gl) rgb W) (hf : st.frames = t :: bl) (h1 : st.hidn = 1) (hd : st.doing ≠ 3) (hm : m = bl.length) (hY : Y = ifrV bd fb) :
    ∃ fv xs, W.cell? ⟨rb, 3, none⟩ = some fv ∧ W.ownsRow w0.heap.size 135 1 fv m xs ∧ w0.heap.size ≤ W.heap.size ∧ ∀ (W1 w8 : World) (A8 : Option Addr) (c8 : Nat), Below W.heap.size W W1 → w8.ownsRow w0.heap.size 135 1 (.slice A8 (m + 1) c8) (m + 1) (xs ++ [Y]) → W1.grownBy w8 fv.ownBlock → ((Value.slice A8 (m + 1) c8).ownBlock = fv.ownBlock ∨ (Value.slice A8 (m + 1) c8).ownBlock = some W1.heap.size) →
      w8.cell? ⟨rb, 3, none⟩ = some fv ∧ w8.frozen? ⟨rb, 3, none⟩ = false ∧ rb < w8.heap.size ∧ Hid (IRunX w0 bd rb tg fa fo n c rs { st with hidn := 0 } (fb :: gl) rgb (w8.setCell ⟨rb, 3, none⟩ (.slice A8 (m + 1) c8))) := by
  obtain ⟨g, ow, hR, hg, hrg⟩ := h
  have hl := hR.frames.len
  have hfl : st.frames.length = m + 1 := by rw [hf, hm]; rfl
  have hO := hR.frs
  rw [h1, hfl, Nat.add_sub_cancel] at hO
  refine ⟨g.fv, _, hR.run.blk.cell 3, hO.own, hR.below.size, fun W1 w8 A8 c8 hb1 hown hgr hor => ?_⟩
  obtain ⟨hb8, hB8, hO8, hkr⟩ := app_set hR.run hO (by omega) hb1 hown hgr hor 3
  refine ⟨hb8.cell 3, hb8.frozen 3, hb8.lt, Lib.hid ?_⟩
  refine ⟨{ g with fv := .slice A8 (m + 1) c8 }, _, hR.part (st' := { st with hidn := 0 }) (g' := { g with fv := .slice A8 (m + 1) c8 }) hkr (ne2 (by omega) (by omega)) hB8 ?_ (hR.frames.kr hkr (ne2 (by omega) (by omega)) fun x h1 h2 => ne2 (by omega) (by omega)) (fun hb => ⟨(hR.regs hb).1.kr hkr (ne2 (by omega) (by omega)), (hR.regs hb).2⟩) (hR.pan.kr hkr (ne2 (by omega) (by omega))) (hR.tr.kr hkr (ne2 (by omega) (by omega)) (ne2 (by omega) (by omega)) (ne2 (by omega) (by omega))) (fun _ => hR.res hd) (fun h3 => absurd h3 hd), hg, hrg⟩
  show OR _ _ _ _ _ _ _ (st.frames.length - 0) ((ifrVs bd g.gs).take (st.frames.length - 0))
  have e : (ifrVs bd g.gs).take (st.frames.length - 0) = (ifrVs bd g.gs).take m ++ [Y] := by
    cases hgs : g.gs with
    | nil => rw [hgs] at hg; cases hg
    | cons fg gs =>
      rw [hgs] at hg hl
      simp only [List.map_cons, List.cons.injEq] at hg
      simp only [List.length_cons] at hl
      rw [ifrVs_cons, hfl, Nat.sub_zero, List.take_of_length_le (by rw [List.length_append, length_ifrVs]; simp; omega), List.take_append_of_le_length (by rw [length_ifrVs]; omega), List.take_of_length_le (by rw [length_ifrVs]; omega), hY, hg.1]
  rw [e, hfl]
  exact hO8
theorem IRunX.setBegun (h : IRunX w0 bd rb tg fa fo n c rs st gl rgb W) (hd : st.doing ≠ 3) (x : Nat) : IRunX w0 bd rb tg fa fo n c rs { st with begun := x } gl rgb (W.setCell ⟨rb, 4, none⟩ (.int .u64 x)) := h.setRun ⟨hd, hd⟩ rfl rfl rfl rfl rfl rfl rfl fun g => rfl
theorem IRunX.setDepth (h : IRunX w0 bd rb tg fa fo n c rs st gl rgb W) (hd : st.doing ≠ 3) (x : Nat) : IRunX w0 bd rb tg fa fo n c rs { st with depth := x } gl rgb (W.setCell ⟨rb, 12, none⟩ (.int .i64 x)) := h.setRun ⟨hd, hd⟩ rfl rfl rfl rfl rfl rfl rfl fun g => rfl
theorem IRunX.cells12 (h : IRunX w0 bd rb tg fa fo n c rs st gl rgb W) : W.cell? ⟨rb, 12, none⟩ = some (.int .i64 st.depth) ∧ W.frozen? ⟨rb, 12, none⟩ = false ∧ W.cell? ⟨rb, 7, none⟩ = some (.int .i64 st.doing) ∧ W.frozen? ⟨rb, 7, none⟩ = false := by
  obtain ⟨g, ow, hR, _⟩ := h
  exact ⟨hR.run.blk.cell 12, hR.run.blk.frozen 12, hR.run.blk.cell 7, hR.run.blk.frozen 7⟩
end
end Go.Proofs.Ytlnccpojldiogaa

/-
  Package irun: invoked: the arguments of a call.
-/
namespace Go.Proofs.Ytlnccpojldiogaa
set_option linter.unusedVariables false
set_option linter.unusedSimpArgs false
open Go.ChangeShapes Go.WideShapes Go.ChangeAt Go.RowKit

theorem info_u64' : (Try.prog.info? 30).map (fun i => (i.zero, i.size, i.bytes)) = some (some (.int .u64 0), 1, 8) := by kernel_rfl
/-- a row of words, filled up to j -/
def ivA (xs : List Int) (j : Nat) : Array Value := (u64c (xs.take j) ++ List.replicate (xs.length - j) (Value.int .u64 0)).toArray
theorem ivA_set {xs : List Int} {j : Nat} {v : Int} (h : xs[j]? = some v) : (ivA xs j).setIfInBounds j (.int .u64 v) = ivA xs (j + 1) := by
  obtain ⟨hj, hv⟩ := List.getElem?_eq_some_iff.1 h
  unfold ivA
  rw [List.setIfInBounds_toArray, List.set_append_right _ _ (by simp [u64c]; omega)]
  congr 1
  have e1 : j - (u64c (xs.take j)).length = 0 := by simp [u64c]; omega
  rw [e1, show xs.length - j = (xs.length - (j + 1)) + 1 by omega, List.replicate_succ, List.set_cons_zero, List.take_add_one, h]
  simp [u64c]
theorem ivA_zero (xs : List Int) : madeCells #[.int .u64 0] xs.length = ivA xs 0 := by
  unfold ivA madeCells
  apply Array.ext'
  simp only [u64c, List.take_zero, List.map_nil, List.nil_append, Nat.sub_zero]
  rw [List.eq_replicate_iff]
  simp [Nat.mod_one]
theorem ivA_full (xs : List Int) : ivA xs xs.length = (u64c xs).toArray := by
  unfold ivA
  simp
theorem ivA_lt {xs : List Int} {j : Nat} (h : j < xs.length) : (ivA xs j)[j]? = some (.int .u64 0) := by
  have e : (u64c (xs.take j)).length = j := by rw [length_u64c, List.length_take]; omega
  unfold ivA
  rw [List.getElem?_toArray, List.getElem?_append_right (by omega), e, Nat.sub_self, List.getElem?_replicate, if_pos (by omega)]
theorem own_ivA {W : World} {z base : Nat} {xs : List Int} (h : Blk W z 30 (ivA xs xs.length)) (hb : base ≤ z) (hl : xs.length ≤ 1048576) : W.ownsRow base 30 1 (.slice (some ⟨z, 0, none⟩) xs.length xs.length) xs.length (u64c xs) := by
  rw [ivA_full] at h
  refine ⟨by simp [u64c], .inr ⟨z, xs.length, (u64c xs).toArray, rfl, hb, h, Nat.le_refl _, by unfold maxLen; omega, by simp [u64c], ?_⟩⟩
  simp only [u64c, Nat.mul_one]
  exact List.take_of_length_le (by simp)
section
variable {w0 W W' : World} {ow ow' : Nat → Nat} {ex : Nat → Prop} {bd : Bool} {base rb tg fa fo rgb n c k : Nat} {rs : List RG} {st st' : IMc} {g g' : IRG} {t t' : IFr} {bl : List IFr} {gl : List Nat} {fb b o : Nat} {d : IDf} {ds : List IDf} {nd : RN} {r : RG}
theorem IRunX.toO {z : Nat} {xs : List Int} (h : IRunX w0 bd rb tg fa fo n c rs st gl rgb W) (hb : Below W.heap.size W W') (hz : W.heap.size ≤ z) (hB : Blk W' z 30 (ivA xs xs.length)) (hl : xs.length ≤ 1048576) : IRunO w0 bd rb tg fa fo n c rs st gl rgb (.slice (some ⟨z, 0, none⟩) xs.length xs.length) xs W' := by
  obtain ⟨g, ow, hR, h1, h2⟩ := h
  have kr : Kr (fun _ => False) ow (up ow W.heap.size 8) W W' := Kr.of_new hb ow 8 _
  have hbz := hR.below.size
  refine ⟨g, up ow W.heap.size 8, hR.part kr (fun h => h) (hR.run.kr kr (fun h => h)) (hR.frs.kr kr (fun h => h)) (hR.frames.kr kr (fun h => h) fun x h1 h2 h => h) (fun hb => ⟨(hR.regs hb).1.kr kr (fun h => h), (hR.regs hb).2⟩) (hR.pan.kr kr (fun h => h)) (hR.tr.kr kr (fun h => h) (fun h => h) (fun h => h)) hR.res fun hd => (hR.done hd).kr kr (fun h => h), h1, h2, own_ivA hB (by omega) hl, fun q hq => ?_⟩
  injection hq with hq
  subst hq
  exact up_new hz
/-- what invoked answers -/
def InvP (w0 : World) (bd : Bool) (rb tg fa fo n c : Nat) (rs : List RG) (st : IMc) (gl : List Nat) (rgb : Nat) (f : Int) (xs : List Int) (e : Ending) (w' : World) : Prop := ∃ z, e = .returned (.agg #[.int .i64 f, .slice (some ⟨z, 0, none⟩) xs.length xs.length]) ∧ IRunO w0 bd rb tg fa fo n c rs st gl rgb (.slice (some ⟨z, 0, none⟩) xs.length xs.length) xs w'
set_option maxRecDepth 100000 in
set_option maxHeartbeats 3200000 in
theorem invoked_any (h : IRunX w0 bd rb tg fa fo n c rs st (fb :: gl) rgb W) (hf : st.frames = t :: bl) (hr : rs[t.f]? = some r) (hN : NdAt w0 b o nd) (hb : b < w0.heap.size) (hA : Reads w0 w0.heap.size 1 nd.ao nd.nd.args.length (i64c nd.nd.args)) (hpl : ∀ p ∈ nd.nd.args, PlOk r p) (hal : nd.nd.args.length ≤ 1048576) :
    Calls Try.prog 82 #[ifrV bd fb, .pointer (some ⟨b, o, none⟩)] W (InvP w0 bd rb tg fa fo n c rs st (fb :: gl) rgb nd.nd.f (argsP (grs rs) bd st.regs t nd.nd.args)) := by
  obtain ⟨ao, hao⟩ : ∃ ao, ao = nd.ao := ⟨_, rfl⟩
  obtain ⟨nf, hnf⟩ : ∃ nf, nf = nd.nd.f := ⟨_, rfl⟩
  obtain ⟨xs, hxs⟩ : ∃ xs, xs = argsP (grs rs) bd st.regs t nd.nd.args := ⟨_, rfl⟩
  obtain ⟨m, hm⟩ : ∃ m, m = nd.nd.args.length := ⟨_, rfl⟩
  have hxl : xs.length = m := by rw [hxs, hm]; simp [argsP]
  have hlow := h.low
  have hNW := hN.kept hb hlow
  have c9 := hNW.c9
  have c6 := hNW.c6
  rw [← hm, ← hao] at c9 hA
  rw [← hm] at hal
  rw [← hnf] at c6 ⊢
  rw [← hxs]
  have HZ := Lib.hid h
  have HA : Hid (∀ wr, Below W.heap.size W wr → Reads wr w0.heap.size 1 ao m (i64c nd.nd.args)) := Lib.hid fun wr hw => (hA.below hlow).below (hw.mono hlow.size)
  have HXL := Lib.hid hxl
  have HGET : Hid (∀ j p wr, nd.nd.args[j]? = some p → Below W.heap.size W wr → ∃ v, xs[j]? = some v ∧ Calls Try.prog (getF bd) #[.pointer (some ⟨fb, 0, none⟩), .int .i64 p] wr fun e w' => e = .returned (.int .u64 v) ∧ ∃ q, w' = wr.drewN q) := Lib.hid fun j p wr hj hw => by
    refine ⟨getP (grs rs) bd st.regs t p, by rw [hxs]; unfold argsP; rw [List.getElem?_map, hj]; rfl, ?_⟩
    exact get_any (h.on hw) hf hr (hpl p (List.mem_of_getElem? hj))
  have HFIN : Hid (∀ wr, Below W.heap.size W wr → Blk wr (W.heap.size + 1) 30 (ivA xs m) → InvP w0 bd rb tg fa fo n c rs st (fb :: gl) rgb nf xs (.returned (.agg #[.int .i64 nf, .slice (some ⟨W.heap.size + 1, 0, none⟩) m m])) wr) := Lib.hid fun wr hw hB => by
    rw [← hxl] at hB
    exact ⟨W.heap.size + 1, by rw [hxl], h.toO hw (Nat.le_succ _) hB (by rw [hxl]; exact hal)⟩
  have HBZ := Lib.hid (Nat.lt_of_lt_of_le hb hlow.size)
  have HM := Lib.hid hm
  have hbW := HBZ.out
  have hmk : ∀ W : World, (Instr.makeSlice 25 (.int .i64 m) (.int .i64 m)).run Try.prog W = .ok (.slice (some ⟨W.heap.size, 0, none⟩) m m) (W.alloc (.cells (madeCells #[.int .u64 0] m) 30)) := fun W => run_make_row' _ _ _ 8 Try.underlying25 info_u64' rfl .i64 .i64 m (by omega) (by omega) W
  have HI1 : Hid (Below W.heap.size W ((W.alloc (.cells #[.int .i64 0, .slice none 0 0] 98)).alloc (.cells (madeCells #[.int .u64 0] m) 30)) ∧ Blk ((W.alloc (.cells #[.int .i64 0, .slice none 0 0] 98)).alloc (.cells (madeCells #[.int .u64 0] m) 30)) (W.heap.size + 1) 30 (ivA xs 0) ∧ Blk ((W.alloc (.cells #[.int .i64 0, .slice none 0 0] 98)).alloc (.cells (madeCells #[.int .u64 0] m) 30)) W.heap.size 98 #[.int .i64 0, .slice none 0 0]) := Lib.hid ⟨((Below.refl _ _).alloc (Nat.le_refl _) _).alloc (by simp) _, by
    rw [← ivA_zero, hxl]
    have h1 := Blk.new (W.alloc (.cells #[.int .i64 0, .slice none 0 0] 98)) 30 (madeCells #[.int .u64 0] m)
    rwa [show (W.alloc (.cells #[.int .i64 0, .slice none 0 0] 98)).heap.size = W.heap.size + 1 by simp] at h1, (Blk.new _ _ _).alloc _⟩
  clear h hf hr hN hNW hA hpl hxs hxl hm hlow hao hnf
  unfold ifrV
  have hgm := get_m bd fb
  have hng := nget_m bd fb
  cases bd
  all_goals
    simp only [ptrI, ifrP, getF, Bool.false_eq_true, if_false, if_true] at hgm hng HGET ⊢
    go_enter Try.func82, Try.ntmps82
    go_wp2
    go_loopw [19] (fun i wr => ∃ k : Nat, k ≤ m ∧ i = .int .i64 k ∧ Hid (Below W.heap.size W wr ∧ Blk wr (W.heap.size + 1) 30 (ivA xs k) ∧ Blk wr W.heap.size 98 #[.int .i64 0, .slice none 0 0])) (fun i _ => m - (intOf i).toNat)
    case atStart => exact ⟨0, Nat.zero_le _, rfl, HI1⟩
    case round =>
      clear HI1
      obtain ⟨k, hk, rfl, HR⟩ := hrel
      have hz := HR.out.2.1.lt
      by_cases hlt : k < m
      · obtain ⟨b1, off, p, rfl, hb1, HX, x1⟩ := (HA.out wr HR.out.1).int hlt
        obtain ⟨v, hv, hcall⟩ := HGET.out k p wr HX.out HR.out.1
        have HC := Lib.hid hcall
        have HS : Hid (∀ q, Below W.heap.size W ((wr.drewN q).setCell ⟨W.heap.size + 1, k, none⟩ (.int .u64 v)) ∧ Blk ((wr.drewN q).setCell ⟨W.heap.size + 1, k, none⟩ (.int .u64 v)) (W.heap.size + 1) 30 (ivA xs (k + 1)) ∧ Blk ((wr.drewN q).setCell ⟨W.heap.size + 1, k, none⟩ (.int .u64 v)) W.heap.size 98 #[.int .i64 0, .slice none 0 0]) := Lib.hid fun q => by
          have hb := below_drewN' (Below.refl wr.heap.size wr) q
          have hB := HR.out.2.1.below hb hz
          have hB0 := HR.out.2.2.below hb HR.out.2.2.lt
          refine ⟨(HR.out.1.trans (hb.mono HR.out.1.size)).setCell (by simp) _, ?_, hB0.far (by simp) _⟩
          rw [← ivA_set hv]
          exact hB.set_ k _
        have y0 : wr.cell? ⟨W.heap.size + 1, k, none⟩ = some (.int .u64 0) := by rw [HR.out.2.1.cell]; exact ivA_lt (by rw [HXL.out]; exact hlt)
        have f0 : wr.frozen? ⟨W.heap.size + 1, k, none⟩ = false := HR.out.2.1.frozen k
        clear hcall hv
        go_wp2_with (first
          | (go_at_call 204; refine HC.out.mono ?_; rintro e w2 ⟨rfl, q, rfl⟩)
          | (go_at_call 209; refine HC.out.mono ?_; rintro e w2 ⟨rfl, q, rfl⟩))
        go_roundw
        case rel => exact ⟨k + 1, by omega, by go_num, Lib.hid (HS.out q)⟩
        case measure => simp [intOf]; omega
      · obtain rfl : m = k := by omega
        have c6r : wr.cell? ⟨b, o + 6, none⟩ = some (.int .i64 nf) := (HR.out.1.cell (p := ⟨b, o + 6, none⟩) hbW).trans c6
        have hbr := Nat.lt_of_lt_of_le hbW HR.out.1.size
        have hz0 := HR.out.2.2.lt
        have y0 := HR.out.2.2.cell 0
        have y1 := HR.out.2.2.cell 1
        have f0 := HR.out.2.2.frozen 0
        have f1 := HR.out.2.2.frozen 1
        have HE := Lib.hid (HFIN.out ((wr.setCell ⟨W.heap.size, 0, none⟩ (.int .i64 nf)).setCell ⟨W.heap.size, 1, none⟩ (.slice (some ⟨W.heap.size + 1, 0, none⟩) m m)) ((HR.out.1.setCell (by simp) _).setCell (by simp) _) ((HR.out.2.1.far (by simp) _).far (by simp) _))
        go_wp2
        first
          | (go_ret; exact HE.out)
          | (refine bodyPost_ret (v := .agg #[.int .i64 nf, .slice (some ⟨W.heap.size + 1, 0, none⟩) m m]) (by simp [results, Try.results82, go_sem, y0, y1]) rfl HE.out)
end
end Go.Proofs.Ytlnccpojldiogaa
