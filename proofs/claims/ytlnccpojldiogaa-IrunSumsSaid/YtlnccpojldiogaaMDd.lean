/-
  Texts of one seat, one behind the other: IJoin, IRunG, IRunA, IFuelM, ILit.
-/
import Derived.Test.YtlnccpojldiogaaMDa
import Derived.Test.YtlnccpojldiogaaMCi
import Derived.Test.YtlnccpojldiogaaMCj
import Derived.Test.YtlnccpojldiogaaMCg
import Derived.Test.YtlnccpojldiogaaMCh
import Derived.Test.YtlnccpojldiogaaMCa
import Derived.Test.YtlnccpojldiogaaMCb
import Derived.Test.YtlnccpojldiogaaMCd
import Derived.Test.YtlnccpojldiogaaMCe
import Derived.Test.YtlnccpojldiogaaMCf
import Derived.Test.YtlnccpojldiogaaMCc
import Derived.Test.YtlnccpojldiogaaMCk
import Derived.Test.YtlnccpojldiogaaMCl
import Derived.Test.YtlnccpojldiogaaMBc
import Derived.Test.YtlnccpojldiogaaMDc
import Derived.Test.YtlnccpojldiogaaMDb

/-
  Package irun: execute, joined to the plain machine.
-/
namespace Go.Proofs.Ytlnccpojldiogaa
set_option linter.unusedVariables false
set_option linter.unusedSimpArgs false
open Go.ChangeShapes Go.WideShapes Go.ChangeAt Go.RowKit

def waitT (bd : Bool) (regs : List Int) (t : IFr) (d : Int) : IFr := if bd = true then { t with before := regs } else { t with answer := d }
def WaitOK (bd : Bool) : Prop := ∀ (w0 W : World) (rb tg fa fo n c rgb : Nat) (rs : List RG) (st : IMc) (gl : List Nat) (fb b o : Nat) (t : IFr) (bl : List IFr) (nd : RN), IRunX w0 bd rb tg fa fo n c rs st (fb :: gl) rgb W → st.frames = t :: bl → st.doing ≠ 3 → NdAt w0 b o nd → b < w0.heap.size →
  Calls Try.prog (waitF bd) #[.pointer (some ⟨fb, 0, none⟩), .pointer (some ⟨b, o, none⟩)] W fun e w' => e = .returned (.tuple #[]) ∧ IRunX w0 bd rb tg fa fo n c rs (st.top (waitT bd st.regs t nd.nd.d) bl) (fb :: gl) rgb w'
theorem waitOK_free : WaitOK false := by
  intro w0 W rb tg fa fo n c rgb rs st gl fb b o t bl nd h hf hd hN hb
  have h1 := wait_free h hf hN hb
  simp only [waitF, waitT, Bool.false_eq_true, if_false]
  exact h1
theorem resumeOK_free : ResumeOK false := by
  intro w0 W rb tg fa fo n c rgb rs st gl fb fz t b bl r h hf hd hr ha hz c0 c6
  simp only [resumeF, resumed, Bool.false_eq_true, if_false]
  by_cases h1 : b.answer = -1
  · rw [if_pos h1]
    exact resume_none fz h hf h1
  · rw [if_neg h1]
    obtain ⟨r2, hr2, hp⟩ := (ha rfl).resolve_left h1
    exact resume_some fz t.number h hf hr2 hp c6 hz
section
variable {w0 W W' : World} {ow ow' : Nat → Nat} {ex : Nat → Prop} {bd : Bool} {base rb tg fa fo rgb n c k : Nat} {rs : List RG} {st st' st1 st2 st3 : IMc} {g g' : IRG} {t t' u : IFr} {bl : List IFr} {gl : List Nat} {fb b o fz : Nat} {r : RG} {nd : RN} {p x : Int} {d : IDf} {ds : List IDf} {ps : List (Int × Bool)}
set_option maxRecDepth 100000 in
theorem exe_nop (h : IRunX w0 bd rb tg fa fo n c rs st (fb :: gl) rgb W) (hf : st.frames = t :: bl) (hN : NdAt w0 b o nd) (hb : b < w0.heap.size) (hop : nd.nd.op = 10) :
    Calls Try.prog 46 #[.pointer (some ⟨rb, 0, none⟩), ifrV bd fb, .pointer (some ⟨b, o, none⟩)] W fun e w' => e = .returned (.tuple #[]) ∧ IRunX w0 bd rb tg fa fo n c rs st (fb :: gl) rgb w' := by
  have hNW := hN.kept hb h.low
  have c0 := hNW.c0
  rw [hop] at c0
  have HX := Lib.hid h
  clear h hN hNW
  unfold ifrV
  have hbm := body_m bd fb
  cases bd
  all_goals
    simp only [ptrI, ifrP, Bool.false_eq_true, if_false, if_true] at hbm ⊢
    go_enter Try.func46, Try.ntmps46
    go_wp2_with (go_at_call 203; refine (body_any fb _).mono ?_; rintro e w3 ⟨rfl, rfl⟩)
    go_end0
    exact ⟨rfl, HX.out⟩
def MoveOK (bd : Bool) : Prop := ∀ (w0 W : World) (rb tg fa fo n c rgb : Nat) (rs : List RG) (st : IMc) (gl : List Nat) (fb b o : Nat) (t : IFr) (bl : List IFr) (r : RG) (nd : RN), IRunX w0 bd rb tg fa fo n c rs st (fb :: gl) rgb W → st.frames = t :: bl → rs[t.f]? = some r → NdAt w0 b o nd → b < w0.heap.size → nd.nd.op = 2 → PlOk r nd.nd.a → PlOk r nd.nd.d →
  Calls Try.prog 46 #[.pointer (some ⟨rb, 0, none⟩), ifrV bd fb, .pointer (some ⟨b, o, none⟩)] W fun e w' => e = .returned (.tuple #[]) ∧ IRunX w0 bd rb tg fa fo n c rs (st.put (grs rs) bd t bl nd.nd.d (getP (grs rs) bd st.regs t nd.nd.a)) (fb :: gl) rgb w'
theorem pointee_cell {gs : List Gr} {fs : List IFr} {v : Int} {j cl : Nat} (h : pointee gs fs v = some (j, cl)) : cl < 64 := by
  unfold pointee at h
  simp only [] at h
  cases hx : fs.findIdx? (fun t => decide ((t.serial : Int) = (v - iFirst) % 18446744073709551616 / 64)) with
  | none => rw [hx] at h; cases h
  | some i =>
    rw [hx] at h
    simp only [] at h
    cases hf : fs[i]? with
    | none => rw [hf] at h; cases h
    | some t =>
      rw [hf] at h
      simp only [] at h
      split at h
      · injection h with h
        injection h with h1 h2
        omega
      · cases h
theorem hands_plok (hv : valid (grs rs) bd) (hr : rs[k]? = some r) {f : Int} {xs : List Int} (h : hands (grs rs) r.gr bd f xs) : (∀ p ∈ xs, PlOk r p) ∧ ∃ r2, rs[f.toNat]? = some r2 ∧ f = (f.toNat : Int) ∧ xs.length = r2.gr.params.length ∧ r2.gr.params.length ≤ 4 := by
  obtain ⟨⟨f0, f1⟩, hl, hx⟩ := h
  have hfl : f.toNat < rs.length := by rw [length_grs] at f1; omega
  have hr2 : rs[f.toNat]? = some rs[f.toNat] := List.getElem?_eq_getElem hfl
  have hg : grAt (grs rs) f = rs[f.toNat].gr := by
    unfold grAt grs
    rw [List.getD_eq_getElem?_getD, List.getElem?_map, hr2]
    rfl
  rw [hg] at hl hx
  have h4 := (head_lay hv hr2).1
  refine ⟨fun p hp => ?_, _, hr2, by omega, hl, h4⟩
  obtain ⟨i, hi⟩ := List.getElem?_of_mem hp
  obtain ⟨hil, _⟩ := List.getElem?_eq_some_iff.1 hi
  have eq : xs.getD i 0 = p := by rw [List.getD_eq_getElem?_getD, hi]; rfl
  by_cases hb : bd = true
  · rw [if_pos hb] at hx
    have h1 := hx i hil
    have h2 := (val_head hv hr).1.2.1 hb
    rw [eq] at h1
    exact ⟨by omega, by omega⟩
  · rw [if_neg hb] at hx
    have h1 := (hx i hil).1
    rw [eq] at h1
    exact h1
theorem getP_wait (gs : List Gr) (regs r2 : List Int) (t : IFr) (d p : Int) : getP gs bd regs (waitT bd r2 t d) p = getP gs bd regs t p := by
  unfold waitT
  split <;> rfl
theorem argsP_wait (gs : List Gr) (regs r2 : List Int) (t : IFr) (d : Int) (ps : List Int) : argsP gs bd regs (waitT bd r2 t d) ps = argsP gs bd regs t ps := by
  unfold argsP
  exact List.map_congr_left fun p _ => getP_wait gs regs r2 t d p
theorem waitT_f (regs : List Int) (t : IFr) (d : Int) : (waitT bd regs t d).f = t.f := by unfold waitT; split <;> rfl
theorem execI_op {k : Int} (gs : List Gr) (st : IMc) (t : IFr) (bl : List IFr) (m : Nd) (h : m.op = k) : execI gs bd st t bl m = execI gs bd st t bl { m with op := k } := by
  cases m
  subst h
  rfl
set_option maxHeartbeats 1600000 in
/-- execute does what the plain machine does -/
theorem join_any (HMV : nd.nd.op = 2 → MoveOK bd) (HW : WaitOK bd) (hv : valid (grs rs) bd) (hr : rs[t.f]? = some r) (hnd : nd.nd ∈ r.gr.nodes) (hB : IBd rs bd (st.top t bl)) (hd : st.doing = 0) (hwd : ∀ p, PlOk r p → isW (getP (grs rs) bd st.regs t p)) (hx : execI (grs rs) bd st t bl nd.nd = some st1) : ExecC rs bd st t bl nd st1 := by
  intro w0 W rb tg fa fo n c rgb gl fb b o h hN hb0 hRd
  have huse : uses (grs rs) r.gr bd nd.nd := (hv.2.2.2 r.gr (List.mem_map_of_mem (List.mem_of_getElem? hr)) nd.nd hnd).1
  have hcl : r.gr.cells ≤ 64 := (val_head hv hr).2.2.1
  have hd3 : (st.top t bl).doing ≠ 3 := by show st.doing ≠ 3; omega
  have hs1 := hB.pans
  have hs2 := hB.maxp
  have hs3 := hB.evs
  have hs4 := hB.frames
  have hfl : (st.top t bl).frames = t :: bl := rfl
  unfold uses at huse
  unfold execI at hx
  by_cases o1 : nd.nd.op = 1
  · rw [if_pos o1] at hx
    rw [if_pos (.inl o1)] at huse
    injection hx with hx
    subst hx
    exact (exe_const h rfl hr hN hb0 o1 huse.1).mono fun e w' ⟨he, h2⟩ => ⟨he, _, h2⟩
  rw [if_neg o1] at hx
  by_cases o16 : nd.nd.op = 16
  · rw [if_pos (.inr o16)] at huse
    repeat rw [if_neg (by omega)] at hx
    rw [if_pos o16] at hx
    injection hx with hx
    subst hx
    exact (exe_in h rfl hr hN hb0 o16 huse.1 hd3 hs3).mono fun e w' ⟨he, h2⟩ => ⟨he, _, h2⟩
  rw [if_neg (by omega)] at huse
  by_cases o2 : nd.nd.op = 2
  · rw [if_pos o2] at hx huse
    injection hx with hx
    subst hx
    exact (HMV o2 w0 W rb tg fa fo n c rgb rs _ gl fb b o t bl r nd h rfl hr hN hb0 o2 huse.1 huse.2.1).mono fun e w' ⟨he, h2⟩ => ⟨he, _, h2⟩
  rw [if_neg o2] at hx huse
  by_cases o3 : nd.nd.op = 3
  · rw [if_pos o3] at hx huse
    obtain ⟨⟨b7, b20⟩, pd, pa, pb⟩ := huse
    by_cases he : doE nd.nd.bop (getP (grs rs) bd st.regs t nd.nd.b) = 0
    · rw [if_pos he] at hx
      injection hx with hx
      subst hx
      exact (exe_bin h rfl hr hN hb0 o3 fun W' h' => reckon_ok h' rfl hr hN hb0 b7 b20 pa.1 pb.1 pd.1 (hwd _ pb.1) he).mono fun e w' ⟨he, h2⟩ => ⟨he, _, h2⟩
    · rw [if_neg he] at hx
      injection hx with hx
      subst hx
      exact (exe_bin h rfl hr hN hb0 o3 fun W' h' => reckon_zero h' rfl hr hN hb0 b7 b20 pa.1 pb.1 hd3 hs1 hs2 (hwd _ pb.1) he).mono fun e w' ⟨he, h2⟩ => ⟨he, _, h2⟩
  rw [if_neg o3] at hx huse
  by_cases o4 : nd.nd.op = 4
  · rw [if_pos o4] at hx huse
    injection hx with hx
    subst hx
    exact (exe_cellget h rfl hr hN hb0 o4 huse.2.1 huse.1.1 (by have := huse.1.2; omega)).mono fun e w' ⟨he, h2⟩ => ⟨he, _, h2⟩
  rw [if_neg o4] at hx huse
  by_cases o5 : nd.nd.op = 5
  · rw [if_pos o5] at hx huse
    injection hx with hx
    subst hx
    exact (exe_cellset h rfl hr hN hb0 o5 huse.2.1 huse.1.1 (by have := huse.1.2; omega)).mono fun e w' ⟨he, h2⟩ => ⟨he, _, h2⟩
  rw [if_neg o5] at hx huse
  by_cases o6 : nd.nd.op = 6
  · rw [if_pos o6] at hx huse
    injection hx with hx
    subst hx
    exact (exe_addr h rfl hr hN hb0 o6 huse.2.1 huse.1.1 (by have := huse.1.2; omega) (by have := hB.srl t (by rw [hfl]; exact List.mem_cons_self); omega)).mono fun e w' ⟨he, h2⟩ => ⟨he, _, h2⟩
  rw [if_neg o6] at hx huse
  by_cases o7 : nd.nd.op = 7
  · rw [if_pos o7] at hx huse
    cases hp : pointee (grs rs) (t :: bl) (getP (grs rs) bd st.regs t nd.nd.a) with
    | none =>
      rw [hp] at hx
      injection hx with hx
      subst hx
      exact (exe_load h rfl hr hN hb0 o7 fun W' h' => load_null h' rfl hB.hid hB.ser hs4 hB.fn hr hN hb0 huse.2.1 hp hd3 hs1 hs2).mono fun e w' ⟨he, h2⟩ => ⟨he, _, h2⟩
    | some q =>
      obtain ⟨j, cl⟩ := q
      rw [hp] at hx
      obtain ⟨u, hu, hx⟩ := Option.map_eq_some_iff.1 hx
      subst hx
      have hcl2 := pointee_cell hp
      exact (exe_load h rfl hr hN hb0 o7 fun W' h' => load_ok h' rfl hB.hid hB.ser hs4 hB.fn hr hN hb0 huse.2.1 huse.1.1 hp hu hcl2).mono fun e w' ⟨he, h2⟩ => ⟨he, _, h2⟩
  rw [if_neg o7] at hx huse
  by_cases o8 : nd.nd.op = 8
  · rw [if_pos o8] at hx huse
    cases hp : pointee (grs rs) (t :: bl) (getP (grs rs) bd st.regs t nd.nd.a) with
    | none =>
      rw [hp] at hx
      injection hx with hx
      subst hx
      exact (exe_store h rfl hr hN hb0 o8 fun W' h' => store_null h' rfl hB.hid hB.ser hs4 hB.fn hr hN hb0 huse.1.1 hp hd3 hs1 hs2).mono fun e w' ⟨he, h2⟩ => ⟨he, _, h2⟩
    | some q =>
      obtain ⟨j, cl⟩ := q
      rw [hp] at hx
      obtain ⟨u, hu, hx⟩ := Option.map_eq_some_iff.1 hx
      subst hx
      have hcl2 := pointee_cell hp
      exact (exe_store h rfl hr hN hb0 o8 fun W' h' => store_ok h' rfl hB.hid hB.ser hs4 hB.fn hr hN hb0 huse.1.1 huse.2.1 hp hu hcl2).mono fun e w' ⟨he, h2⟩ => ⟨he, _, h2⟩
  rw [if_neg o8] at hx huse
  by_cases o9 : nd.nd.op = 9
  · rw [if_pos o9] at hx
    rw [if_pos (.inl o9)] at huse
    injection hx with hx
    subst hx
    exact (exe_branch h rfl hr hN hb0 o9 huse.1).mono fun e w' ⟨he, h2⟩ => ⟨he, _, h2⟩
  rw [if_neg o9] at hx
  by_cases o14 : nd.nd.op = 14
  · rw [if_pos (.inr (.inl o14))] at huse
    repeat rw [if_neg (by omega)] at hx
    rw [if_pos o14] at hx
    injection hx with hx
    subst hx
    exact (exe_panic h rfl hr hN hb0 o14 huse.1 hd3 hs1 hs2).mono fun e w' ⟨he, h2⟩ => ⟨he, _, h2⟩
  by_cases o18 : nd.nd.op = 18
  · rw [if_pos (.inr (.inr (.inl o18)))] at huse
    repeat rw [if_neg (by omega)] at hx
    rw [if_pos o18] at hx
    injection hx with hx
    subst hx
    exact (exe_exit h rfl hr hN hb0 o18 huse.1 hd3 (by omega)).mono fun e w' ⟨he, h2⟩ => ⟨he, _, h2⟩
  by_cases o17 : nd.nd.op = 17
  · rw [if_pos (.inr (.inr (.inr o17)))] at huse
    repeat rw [if_neg (by omega)] at hx
    rw [if_pos o17] at hx
    injection hx with hx
    subst hx
    exact (exe_out h rfl hr hN hb0 o17 huse.1 hd3 hs3).mono fun e w' ⟨he, h2⟩ => ⟨he, _, h2⟩
  rw [if_neg (by omega)] at huse
  by_cases o10 : nd.nd.op = 10
  · rw [if_pos o10] at hx
    injection hx with hx
    subst hx
    exact (exe_nop h rfl hN hb0 o10).mono fun e w' ⟨he, h2⟩ => ⟨he, _, h2⟩
  rw [if_neg o10] at hx huse
  by_cases o11 : nd.nd.op = 11
  · rw [if_pos o11] at hx huse
    injection hx with hx
    obtain ⟨hpl, r2, hr2, hf2, hl2, h42⟩ := hands_plok hv hr huse.1
    refine (exe_call h rfl hr hN hb0 o11 (Q1 := fun w => IRunX w0 bd rb tg fa fo n c rs ((st.top t bl).top (waitT bd st.regs t nd.nd.d) bl) (fb :: gl) rgb w) (Q := fun w => ∃ gl', IRunX w0 bd rb tg fa fo n c rs st1 gl' rgb w) (fun W' h' => HW w0 W' rb tg fa fo n c rgb rs _ gl fb b o t bl nd h' rfl hd3 hN hb0) fun W' h' => ?_).mono fun e w' ⟨he, h2⟩ => ⟨he, h2⟩
    refine (invoked_any (t := waitT bd st.regs t nd.nd.d) h' rfl (by rw [waitT_f]; exact hr) hN hb0 hRd.args hpl (by omega)).mono ?_
    rintro e w' ⟨z, rfl, hO⟩
    rw [argsP_wait] at hO ⊢
    obtain ⟨hA, hcA, hnA⟩ := hO.runA rfl
    refine ⟨_, rfl, Lib.hid ?_⟩
    have hal : (argsP (grs rs) bd st.regs t nd.nd.args).length = r2.gr.params.length := by unfold argsP; rw [List.length_map]; exact hl2
    have hbg := begin_any 1 nd.nd.f.toNat _ _ _ _ hA hB.kb hB.hid hd3 hr2 rfl hal (by show (_ :: bl).length ≤ _; have : (t :: bl).length ≤ 1048576 := hs4; simpa using this) hB.depth (by have := hB.begun; show st.begun ≤ _; have h2 : st.begun ≤ 1048576 := this; omega) hcA hnA
    rw [hf2]
    refine hbg.mono fun e w' ⟨he, fb2, h2⟩ => ⟨he, fb2 :: fb :: gl, ?_⟩
    rw [← hx]
    unfold waitT at h2
    exact h2
  rw [if_neg o11] at hx huse
  by_cases o12 : nd.nd.op = 12
  · rw [if_pos o12] at hx huse
    injection hx with hx
    by_cases ha : nd.nd.a = -1
    · rw [if_pos ha] at hx
      subst hx
      exact (exe_ret h rfl hr hN hb0 o12 fun W' h' => ret_none h' rfl hN hb0 ha hd3).mono fun e w' ⟨he, h2⟩ => ⟨he, _, h2⟩
    · rw [if_neg ha] at hx
      subst hx
      have pa : PlOk r nd.nd.a := by
        by_cases hres : r.gr.result = true
        · rw [if_pos hres] at huse; exact huse.1
        · rw [if_neg hres] at huse; exact absurd huse ha
      exact (exe_ret h rfl hr hN hb0 o12 fun W' h' => ret_some h' rfl hr hN hb0 ha pa hd3).mono fun e w' ⟨he, h2⟩ => ⟨he, _, h2⟩
  rw [if_neg o12] at hx huse
  by_cases o13 : nd.nd.op = 13
  · rw [if_pos o13] at hx huse
    injection hx with hx
    obtain ⟨hpl, r2, hr2, hf2, hl2, h42⟩ := hands_plok hv hr huse
    refine (exe_defer h rfl hr hN hb0 o13 (Q := fun w => ∃ gl', IRunX w0 bd rb tg fa fo n c rs st1 gl' rgb w) fun W' h' => ?_).mono fun e w' ⟨he, h2⟩ => ⟨he, h2⟩
    refine (invoked_any h' rfl hr hN hb0 hRd.args hpl (by omega)).mono ?_
    rintro e w' ⟨z, rfl, hO⟩
    refine ⟨_, rfl, Lib.hid ?_⟩
    have hdl := delay_any (d := ⟨nd.nd.f.toNat, argsP (grs rs) bd st.regs t nd.nd.args⟩) _ _ hO rfl hd3 (by have := hB.defs t (by rw [hfl]; exact List.mem_cons_self); omega) (by have := hB.waiting; omega) hB.defers
    rw [hf2]
    refine hdl.mono fun e w' ⟨he, h2⟩ => ⟨he, fb :: gl, ?_⟩
    rw [← hx]
    exact h2
  rw [if_neg o13] at hx huse
  rw [if_neg o14] at hx
  by_cases o15 : nd.nd.op = 15
  · rw [if_pos o15] at hx huse
    obtain ⟨_, pd, pe⟩ := huse
    by_cases hy : t.why = 3
    · rw [if_pos hy] at hx
      rcases hp : st.panics with _ | ⟨⟨v, _ | _⟩, ps⟩
      · rw [hp] at hx; cases hx
      · rw [hp] at hx
        injection hx with hx
        subst hx
        have hpl : ps.length ≤ 1048577 := by have : st.panics.length ≤ 1048576 := hs1; rw [hp] at this; simp only [List.length_cons] at this; omega
        exact (exe_catch h rfl hr hN hb0 o15 fun W' h' => catch_yes h' rfl hr hN hb0 pd.1 pe.1 hy hp hd3 hpl).mono fun e w' ⟨he, h2⟩ => ⟨he, _, h2⟩
      · rw [hp] at hx
        injection hx with hx
        subst hx
        have hpl : ps.length ≤ 1048577 := by have : st.panics.length ≤ 1048576 := hs1; rw [hp] at this; simp only [List.length_cons] at this; omega
        exact (exe_catch h rfl hr hN hb0 o15 fun W' h' => catch_no h' rfl hr hN hb0 pd.1 pe.1 hy hp hd3 hpl).mono fun e w' ⟨he, h2⟩ => ⟨he, _, by rw [← hp] at *; exact h2⟩
    · rw [if_neg hy] at hx
      injection hx with hx
      subst hx
      exact (exe_catch h rfl hr hN hb0 o15 fun W' h' => catch_far h' rfl hr hN hb0 pd.1 pe.1 hy).mono fun e w' ⟨he, h2⟩ => ⟨he, _, h2⟩
  rw [if_neg o15] at huse
  exact absurd huse id
end
end Go.Proofs.Ytlnccpojldiogaa

/-
  Package irun: valid graphs, read free, run on, whatever the fuel; with more fuel a run is the same as far as it goes.
-/
namespace Go.Proofs.Ytlnccpojldiogaa
set_option linter.unusedVariables false
set_option linter.unusedSimpArgs false

section
variable {rs : List RG} {st st1 st2 a b c : IMc} {t : IFr} {bl : List IFr} {tape : List Int}
theorem step_good (HM : MoveOK false) (hv : valid (grs rs) false) (hw : ∀ r ∈ rs, WfG r.gr) (hns : ∀ r ∈ rs, nds r.ns = r.gr.nodes) (h : GoodI (grs rs) st) (hd : st.doing = 0) (hs6 : st.steps ≤ 1000000) : ∃ st2, StepB rs false st st2 ∧ GoodI (grs rs) st2 ∧ st2.steps = st.steps + 1 ∧ (st2.doing = 0 ∨ st2.doing = 3) := by
  rcases hf : st.frames with _ | ⟨t, bl⟩
  · exact absurd hf (h.ne (by omega))
  have hF := h.frs t (by rw [hf]; simp)
  obtain ⟨r, hr, hg⟩ := rsAt hF.f
  have hc := h.ch
  rw [hf, if_pos hd] at hc
  obtain ⟨n0, n1⟩ := hc.1 (by omega)
  rw [hg] at n1
  have hrm := List.mem_of_getElem? hr
  have hnl : t.at_.toNat < r.ns.length := by
    have := hns r hrm
    rw [← this] at n1
    unfold nds at n1
    rw [List.length_map] at n1
    omega
  have hnd : r.ns[t.at_.toNat]? = some r.ns[t.at_.toNat] := List.getElem?_eq_getElem hnl
  obtain ⟨nd, hndq⟩ : ∃ nd, nd = r.ns[t.at_.toNat] := ⟨_, rfl⟩
  rw [← hndq] at hnd
  have hmem : nd.nd ∈ r.gr.nodes := by
    rw [← hns r hrm]
    unfold nds
    exact List.mem_map_of_mem (List.mem_of_getElem? hnd)
  have hwn := (hw r hrm).nodes nd.nd hmem
  have hi : isW nd.nd.imm := by
    have h1 := hwn.m0
    have h2 := hwn.m1
    unfold isW
    omega
  obtain ⟨st1, e1, e2, e3⟩ := exec_good hv h hd hf hr hmem hi
  obtain ⟨N, st2, e4, e5, e6, e7, e8⟩ := settle_good hv st1.frames.length st1 (Nat.le_refl _) e2 (by omega)
  have h1 := h.s1
  rw [hf, if_pos hd] at h1
  simp only [List.length_cons] at h1
  have h4 := e6.s4
  have hB : IBd rs false (({ st with steps := st.steps + 1 } : IMc).top { t with at_ := nd.nd.next } bl) := by
    have hb := h.bd (by omega)
    have memt : ∀ x ∈ ({ t with at_ := nd.nd.next } :: bl : List IFr), x = { t with at_ := nd.nd.next } ∨ x ∈ st.frames := fun x hx => by
      rcases List.mem_cons.1 hx with h | h
      · exact .inl h
      · exact .inr (by rw [hf]; simp [h])
    have htm : t ∈ st.frames := by rw [hf]; simp
    have hfl := hb.frames
    rw [hf] at hfl
    refine ⟨hb.hid, hb.kb, by show (_ :: bl).length ≤ 1048576; exact hfl, hb.depth, hb.begun, hb.waiting, hb.defers, hb.pans, hb.maxp, hb.evs, fun x hx => ?_, fun x hx => ?_, fun x hx => ?_, fun hbf t' b' bl' hf' hw' => ?_, ?_, fun x hx => ?_, fun x hx => ?_⟩
    · rcases memt x hx with rfl | hx
      · exact hb.fn t htm
      · exact hb.fn x hx
    · rcases memt x hx with rfl | hx
      · exact hb.defs t htm
      · exact hb.defs x hx
    · rcases memt x hx with rfl | hx
      · exact hb.args t htm
      · exact hb.args x hx
    · injection hf' with f1 f2
      subst f1
      exact hb.ans hbf t b' bl' (by rw [hf, f2]) hw'
    · have hs := hb.ser
      rw [hf] at hs
      show SerDown ({ t with at_ := nd.nd.next } :: bl)
      intro i j x y hi hj hij
      cases j with
      | zero => omega
      | succ j =>
        cases i with
        | zero =>
          obtain rfl : ({ t with at_ := nd.nd.next } : IFr) = x := by simpa using hi
          exact hs 0 (j + 1) t y rfl (by simpa using hj) hij
        | succ i => exact hs (i + 1) (j + 1) x y (by simpa using hi) (by simpa using hj) hij
    · rcases memt x hx with rfl | hx
      · exact hb.why t htm
      · exact hb.why x hx
    · rcases memt x hx with rfl | hx
      · exact hb.srl t htm
      · exact hb.srl x hx
  exact ⟨st2, ⟨t, bl, r, nd, t.at_.toNat, st1, N, hf, h.hid, hr, hnd, by omega, by omega, by omega, join_any (fun _ => HM) waitOK_free hv hr hmem hB hd (fun p _ => by rw [getP_false]; exact hF.wds _) e1, e1, e4, e5, by omega, by omega⟩, e6, by omega, e8⟩
theorem run_good (HM : MoveOK false) (hv : valid (grs rs) false) (hw : ∀ r ∈ rs, WfG r.gr) (hns : ∀ r ∈ rs, nds r.ns = r.gr.nodes) : ∀ (n : Nat) (st : IMc), GoodI (grs rs) st → st.doing = 0 ∨ st.doing = 3 → st.steps + n ≤ 1000000 → ∃ st', RunB rs false n st st' ∧ GoodI (grs rs) st' ∧ (st'.doing = 0 ∧ st'.steps = st.steps + n ∨ st'.doing = 3)
  | 0, st, h, hd, _ => ⟨st, rfl, h, by omega⟩
  | n + 1, st, h, hd, hs => by
    by_cases h3 : st.doing = 3
    · exact ⟨st, by unfold RunB; rw [if_pos h3], h, .inr h3⟩
    · obtain ⟨st2, e1, e2, e3, e4⟩ := step_good HM hv hw hns h (by omega) (by omega)
      obtain ⟨st', r1, r2, r3⟩ := run_good HM hv hw hns n st2 e2 e4 (by omega)
      refine ⟨st', by unfold RunB; rw [if_neg h3]; exact ⟨st2, e1, r1⟩, r2, ?_⟩
      rcases r3 with ⟨a1, a2⟩ | a1
      · exact .inl ⟨a1, by omega⟩
      · exact .inr a1
theorem start_good (hv : valid (grs rs) false) (ht : ∀ v ∈ tape, isW v) : GoodI (grs rs) (startI (grs rs) false tape) :=
  begin_good (st := mcI0 false tape) (why := 0) (k := 0) (args := []) hv (fun t h => by cases h) trivial rfl rfl rfl (fun _ => rfl) (by have := hv.1.1; omega) (by omega) (fun x h => by cases h) rfl (fun p h => by cases h) rfl ht (fun t h => by cases h) (Nat.le_refl _) (Nat.le_refl _) (Nat.zero_le _) (Nat.le_refl _) (Nat.le_refl _) (Nat.le_refl _) (Nat.le_refl _) (Nat.le_refl _)
/-- a run, whatever the fuel -/
theorem run_all (HM : MoveOK false) (hv : valid (grs rs) false) (hw : ∀ r ∈ rs, WfG r.gr) (hns : ∀ r ∈ rs, nds r.ns = r.gr.nodes) (ht : ∀ v ∈ tape, isW v) (n : Nat) (hn : n ≤ 1000000) : ∃ st', RunB rs false n (startI (grs rs) false tape) st' ∧ GoodI (grs rs) st' ∧ (st'.doing = 0 ∧ st'.steps = n ∨ st'.doing = 3) := by
  obtain ⟨st', h1, h2, h3⟩ := run_good HM hv hw hns n _ (start_good hv ht) (.inl rfl) (by show 0 + n ≤ _; omega)
  refine ⟨st', h1, h2, ?_⟩
  rcases h3 with ⟨a1, a2⟩ | a1
  · exact .inl ⟨a1, by rw [a2]; show 0 + n = n; omega⟩
  · exact .inr a1
/-! one run -/
theorem settle_one {gs : List Gr} {bd : Bool} : ∀ {N M : Nat} {st a b : IMc}, settleI gs bd N st = some a → settleI gs bd M st = some b → a = b
  | 0, _, _, _, _, h, _ => by cases h
  | _, 0, _, _, _, _, h => by cases h
  | N + 1, M + 1, st, a, b, h1, h2 => by
    unfold settleI at h1 h2
    split at h1
    · rename_i hd
      rw [if_pos hd] at h2
      cases hs : settleI1 gs bd st with
      | none => rw [hs] at h1; cases h1
      | some x =>
        rw [hs] at h1 h2
        exact settle_one h1 h2
    · rename_i hd
      rw [if_neg hd] at h2
      injection h1 with h1
      injection h2 with h2
      rw [← h1, h2]
theorem StepB.one {bd : Bool} (h1 : StepB rs bd st st1) (h2 : StepB rs bd st st2) : st1 = st2 := by
  obtain ⟨t, bl, r, i, x, s1, N, a1, _, a2, a3, a4, _, _, _, a8, a10, _⟩ := h1
  obtain ⟨t', bl', r', i', x', s1', N', b1, _, b2, b3, b4, _, _, _, b8, b10, _⟩ := h2
  rw [a1] at b1
  injection b1 with b0 b1
  subst b0 b1
  rw [a2] at b2
  injection b2 with b2
  subst b2
  have hx : x = x' := by omega
  subst hx
  rw [a3] at b3
  injection b3 with b3
  subst b3
  rw [a8] at b8
  injection b8 with b8
  subst b8
  exact settle_one a10 b10
theorem RunB.split {bd : Bool} : ∀ {n m : Nat} {st a b : IMc}, RunB rs bd n st a → RunB rs bd (n + m) st b → RunB rs bd m a b
  | 0, m, st, a, b, h1, h2 => by
    have : a = st := h1
    subst this
    rw [Nat.zero_add] at h2
    exact h2
  | n + 1, m, st, a, b, h1, h2 => by
    rw [show n + 1 + m = (n + m) + 1 by omega] at h2
    unfold RunB at h1 h2
    by_cases h3 : st.doing = 3
    · rw [if_pos h3] at h1 h2
      subst h1 h2
      cases m with
      | zero => rfl
      | succ m => unfold RunB; rw [if_pos h3]
    · rw [if_neg h3] at h1 h2
      obtain ⟨x, e1, e2⟩ := h1
      obtain ⟨y, e3, e4⟩ := h2
      have := e1.one e3
      subst this
      exact RunB.split e2 e4
/-- events are only added, and a run's end is none for want of fuel -/
structure Grow (a b : IMc) : Prop where
  evs : ∃ l, b.evs = a.evs ++ l
  endk : a.endk ≠ 3 → b.endk ≠ 3
theorem Grow.refl (a : IMc) : Grow a a := ⟨⟨[], by simp⟩, fun h => h⟩
theorem Grow.trans (h1 : Grow a b) (h2 : Grow b c) : Grow a c := by
  obtain ⟨l, e1⟩ := h1.evs
  obtain ⟨l', e2⟩ := h2.evs
  exact ⟨⟨l ++ l', by rw [e2, e1, List.append_assoc]⟩, fun h => h2.endk (h1.endk h)⟩
theorem Grow.same (h1 : b.evs = a.evs) (h2 : b.endk = a.endk) : Grow a b := ⟨⟨[], by simp [h1]⟩, fun h => by rw [h2]; exact h⟩
theorem Grow.end_ (h1 : b.evs = a.evs) (h2 : b.endk = 1 ∨ b.endk = 2) : Grow a b := ⟨⟨[], by simp [h1]⟩, fun _ => by omega⟩
theorem Grow.ev {l : List (Int × Int)} (h1 : b.evs = a.evs ++ l) (h2 : b.endk = a.endk) : Grow a b := ⟨⟨l, h1⟩, fun h => by rw [h2]; exact h⟩
theorem put2_same (gs : List Gr) (bd : Bool) (bl : List IFr) (p v : Int) : (st.put2 gs bd bl p v).evs = st.evs ∧ (st.put2 gs bd bl p v).endk = st.endk := by
  unfold IMc.put2
  cases st.frames <;> exact ⟨rfl, rfl⟩
theorem ite_some {c : Prop} [Decidable c] {a b : Option IMc} {P : IMc → Prop} (h1 : ∀ x, a = some x → P x) (h2 : ∀ x, b = some x → P x) : ∀ x, (if c then a else b) = some x → P x := by
  intro x h
  by_cases hc : c
  · rw [if_pos hc] at h; exact h1 x h
  · rw [if_neg hc] at h; exact h2 x h
theorem map_some {α : Type} {o : Option α} {f : α → IMc} {P : IMc → Prop} (h : ∀ v, P (f v)) : ∀ x, o.map f = some x → P x := by
  intro x hx
  cases o with
  | none => cases hx
  | some v => injection hx with hx; subst hx; exact h v
theorem none_some {P : IMc → Prop} : ∀ x, (none : Option IMc) = some x → P x := fun x h => by cases h
theorem some_some {y : IMc} {P : IMc → Prop} (h : P y) : ∀ x, some y = some x → P x := fun x hx => by injection hx with hx; subst hx; exact h
theorem exec_grow' {gs : List Gr} {bd : Bool} {n : Nd} : ∀ x, execI gs bd st t bl n = some x → Grow st x := by
  unfold execI
  rcases hp : pointee gs (t :: bl) (getP gs bd st.regs t n.a) with _ | ⟨j, c⟩ <;> rcases hq : st.panics with _ | ⟨⟨u, _ | _⟩, ps⟩ <;> simp only [hp]
  all_goals repeat' refine ite_some ?_ ?_
  all_goals first
    | exact none_some
    | exact some_some (.same rfl rfl)
    | exact map_some fun v => .same rfl rfl
    | exact some_some (.ev rfl rfl)
    | exact some_some (.end_ rfl (.inl rfl))
    | (refine some_some ?_; obtain ⟨h1, h2⟩ := put2_same (st := IMc.put _ gs bd t bl n.d _) gs bd bl n.e _; exact .same h1 h2)
theorem exec_grow {gs : List Gr} {bd : Bool} {n : Nd} (h : execI gs bd st t bl n = some st1) : Grow st st1 := exec_grow' _ h
theorem settle1_grow {gs : List Gr} {bd : Bool} (h : settleI1 gs bd st = some st1) : Grow st st1 := by
  unfold settleI1 at h
  try simp only [] at h
  repeat' split at h
  all_goals first
    | cases h
    | skip
  all_goals first
    | exact .same rfl rfl
    | exact .end_ rfl (.inl rfl)
    | exact .end_ rfl (.inr rfl)
theorem settle_grow {gs : List Gr} {bd : Bool} : ∀ {N : Nat} {st a : IMc}, settleI gs bd N st = some a → Grow st a
  | 0, _, _, h => by cases h
  | N + 1, st, a, h => by
    unfold settleI at h
    split at h
    · cases hs : settleI1 gs bd st with
      | none => rw [hs] at h; cases h
      | some x =>
        rw [hs] at h
        exact (settle1_grow hs).trans (settle_grow h)
    · injection h with h
      subst h
      exact .refl _
theorem StepB.grow {bd : Bool} (h : StepB rs bd st st2) : Grow st st2 ∧ st2.steps = st.steps + 1 := by
  obtain ⟨t, bl, r, i, x, s1, N, a1, _, a2, a3, a4, _, _, _, a8, a10, _, a12, _⟩ := h
  have h1 := exec_grow a8
  exact ⟨Grow.trans ⟨h1.evs, h1.endk⟩ (settle_grow a10), a12⟩
theorem RunB.grow {bd : Bool} : ∀ {n : Nat} {st a : IMc}, RunB rs bd n st a → Grow st a ∧ st.steps ≤ a.steps ∧ a.steps ≤ st.steps + n
  | 0, st, a, h => by
    have : a = st := h
    subst this
    exact ⟨.refl _, by omega, by omega⟩
  | n + 1, st, a, h => by
    unfold RunB at h
    split at h
    · subst h
      exact ⟨.refl _, by omega, by omega⟩
    · obtain ⟨x, e1, e2⟩ := h
      obtain ⟨g1, g2⟩ := e1.grow
      obtain ⟨g3, g4, g5⟩ := RunB.grow e2
      exact ⟨g1.trans g3, by omega, by omega⟩
end
end Go.Proofs.Ytlnccpojldiogaa

/-
  Package irun: Run, whatever valid or other graphs it is given, read free.
-/
namespace Go.Proofs.Ytlnccpojldiogaa
set_option linter.unusedVariables false
set_option linter.unusedSimpArgs false
open Go.ChangeShapes Go.WideShapes Go.ChangeAt Go.RowKit

def zeroR : Value := .agg #[.slice none 0 0, .int .i64 0, .int .u64 0, .int .i64 0, .int .i64 0, .int .i64 0, .int .i64 0]
set_option maxRecDepth 100000 in
set_option maxHeartbeats 6400000 in
theorem run_bad (B n c : Nat) (A : Option Addr) (rs : List RG) (bd : Bool) (ta : Option Addr) (nt ct : Nat) (x : Int) (w : World) (h : RdP w B A n rs) (hB : B ≤ w.heap.size) (hv : ¬ valid (grs rs) bd) :
    Calls Try.prog 10 #[.agg #[.slice A n c], .bool bd, .slice ta nt ct, .int .i64 x] w fun e w' => e = .returned (.tuple #[zeroR, .int .i64 70]) ∧ Below w.heap.size w w' := by
  have HB0 : Hid (Below w.heap.size w ((w.alloc (.cells #[.slice A n c] 24)).alloc (.cells #[.slice none 0 0, .int .i64 0, .int .u64 0, .int .i64 0, .int .i64 0, .int .i64 0, .int .i64 0] 34))) := ((Below.refl _ _).alloc (Nat.le_refl _) _).alloc (by simp) _
  have HZ0 : Hid (Blk ((w.alloc (.cells #[.slice A n c] 24)).alloc (.cells #[.slice none 0 0, .int .i64 0, .int .u64 0, .int .i64 0, .int .i64 0, .int .i64 0, .int .i64 0] 34)) (w.heap.size + 1) 34 #[.slice none 0 0, .int .i64 0, .int .u64 0, .int .i64 0, .int .i64 0, .int .i64 0, .int .i64 0]) := Lib.hid (by
    have := Blk.new (w.alloc (.cells #[.slice A n c] 24)) 34 #[.slice none 0 0, .int .i64 0, .int .u64 0, .int .i64 0, .int .i64 0, .int .i64 0, .int .i64 0]
    rwa [show (w.alloc (.cells #[.slice A n c] 24)).heap.size = w.heap.size + 1 by simp] at this)
  have hC := check_any B A n c rs bd _ (h.below (HB0.out.mono hB)) (by simp; omega)
  rw [if_neg hv] at hC
  have HC := Lib.hid hC
  clear h hv hC
  go_enter Try.func10, Try.ntmps10
  go_wp2_with (first | (go_at_call 21; refine HC.out.mono ?_; rintro e w2 ⟨rfl, hb2⟩; have HZ2 := Lib.hid (HZ0.out.below hb2 HZ0.out.lt); have HB2 := Lib.hid (HB0.out.trans (hb2.mono (by simp; omega))); clear hb2; refine Hid.out ?_))
  have z0 : w2.cell? ⟨w.heap.size + 1, 0, none⟩ = some (.slice none 0 0) := HZ2.out.cell 0
  have z1 : w2.cell? ⟨w.heap.size + 1, 1, none⟩ = some (.int .i64 0) := HZ2.out.cell 1
  have z2 : w2.cell? ⟨w.heap.size + 1, 2, none⟩ = some (.int .u64 0) := HZ2.out.cell 2
  have z3 : w2.cell? ⟨w.heap.size + 1, 3, none⟩ = some (.int .i64 0) := HZ2.out.cell 3
  have z4 : w2.cell? ⟨w.heap.size + 1, 4, none⟩ = some (.int .i64 0) := HZ2.out.cell 4
  have z5 : w2.cell? ⟨w.heap.size + 1, 5, none⟩ = some (.int .i64 0) := HZ2.out.cell 5
  have z6 : w2.cell? ⟨w.heap.size + 1, 6, none⟩ = some (.int .i64 0) := HZ2.out.cell 6
  have zf : ∀ i, w2.frozen? ⟨w.heap.size + 1, i, none⟩ = false := fun i => HZ2.out.frozen i
  refine Lib.hid ?_
  go_wp2
  have hfin : Blk (((((((w2.setCell ⟨w.heap.size + 1, 0, none⟩ (.slice none 0 0)).setCell ⟨w.heap.size + 1, 1, none⟩ (.int .i64 0)).setCell ⟨w.heap.size + 1, 2, none⟩ (.int .u64 0)).setCell ⟨w.heap.size + 1, 3, none⟩ (.int .i64 0)).setCell ⟨w.heap.size + 1, 4, none⟩ (.int .i64 0)).setCell ⟨w.heap.size + 1, 5, none⟩ (.int .i64 0)).setCell ⟨w.heap.size + 1, 6, none⟩ (.int .i64 0)) (w.heap.size + 1) 34 #[.slice none 0 0, .int .i64 0, .int .u64 0, .int .i64 0, .int .i64 0, .int .i64 0, .int .i64 0] ∧
      Below w.heap.size w (((((((w2.setCell ⟨w.heap.size + 1, 0, none⟩ (.slice none 0 0)).setCell ⟨w.heap.size + 1, 1, none⟩ (.int .i64 0)).setCell ⟨w.heap.size + 1, 2, none⟩ (.int .u64 0)).setCell ⟨w.heap.size + 1, 3, none⟩ (.int .i64 0)).setCell ⟨w.heap.size + 1, 4, none⟩ (.int .i64 0)).setCell ⟨w.heap.size + 1, 5, none⟩ (.int .i64 0)).setCell ⟨w.heap.size + 1, 6, none⟩ (.int .i64 0)) := by
    obtain ⟨h1, _, h3⟩ := fin_set (w := w) (AE := none) (cE := 0) (mcI0 false []) HZ2.out (by omega) (own_none _ _ _ _) HB2.out
    exact ⟨h1, h3⟩
  obtain ⟨hfb, hfw⟩ := hfin
  obtain ⟨Wf, hWf⟩ : ∃ W, W = (((((((w2.setCell ⟨w.heap.size + 1, 0, none⟩ (.slice none 0 0)).setCell ⟨w.heap.size + 1, 1, none⟩ (.int .i64 0)).setCell ⟨w.heap.size + 1, 2, none⟩ (.int .u64 0)).setCell ⟨w.heap.size + 1, 3, none⟩ (.int .i64 0)).setCell ⟨w.heap.size + 1, 4, none⟩ (.int .i64 0)).setCell ⟨w.heap.size + 1, 5, none⟩ (.int .i64 0)).setCell ⟨w.heap.size + 1, 6, none⟩ (.int .i64 0)) := ⟨_, rfl⟩
  rw [← hWf] at hfb hfw ⊢
  clear hWf
  have e0 := hfb.cell 0
  have e1 := hfb.cell 1
  have e2 := hfb.cell 2
  have e3 := hfb.cell 3
  have e4 := hfb.cell 4
  have e5 := hfb.cell 5
  have e6 := hfb.cell 6
  simp only [List.getElem?_toArray, List.getElem?_cons_succ, List.getElem?_cons_zero] at e0 e1 e2 e3 e4 e5 e6
  refine bodyPost_ret (v := .tuple #[zeroR, .int .i64 70]) (by simp [zeroR, results, Try.results10, go_sem, e0, e1, e2, e3, e4, e5, e6]) rfl ?_
  exact ⟨rfl, hfw⟩
def RunAns (rs : List RG) (tape : List Int) (fuel : Nat) (er : Int) (st : IMc) : Prop :=
  (¬ valid (grs rs) false ∧ er = 70 ∧ st = mcI0 false []) ∨
  (valid (grs rs) false ∧ er = 0 ∧ ∃ stF, RunB rs false fuel (startI (grs rs) false tape) stF ∧ GoodI (grs rs) stF ∧ (stF.doing = 0 ∧ stF.steps = fuel ∨ stF.doing = 3) ∧ st = if stF.doing = 3 then stF else stF.over 3 0)
def RunPost (w : World) (rs : List RG) (tape : List Int) (fuel : Nat) (e : Ending) (w' : World) : Prop :=
  ∃ A c st er, e = .returned (.tuple #[.agg #[.slice A st.evs.length c, .int .i64 st.endk, .int .u64 st.endv, .int .i64 st.steps, .int .i64 st.depth, .int .i64 st.defers, .int .i64 st.maxp], .int .i64 er]) ∧ RunAns rs tape fuel er st ∧
    w'.ownsRow w.heap.size 79 2 (.slice A st.evs.length c) st.evs.length (ievc st.evs) ∧ Below w.heap.size w w'
theorem run_full (HM : MoveOK false) (B n c : Nat) (A : Option Addr) (rs : List RG) (ta : Option Addr) (nt ct : Nat) (tape : List Int) (fuel : Nat) (w : World) (h : RdP w B A n rs) (hB : B ≤ w.heap.size) (ht : Reads w B 1 ta nt (u64c tape)) (hnt : nt * 8 ≤ 140737488351232) (htw : ∀ v ∈ tape, isW v) (hfu : fuel ≤ 1000000) :
    Calls Try.prog 10 #[.agg #[.slice A n c], .bool false, .slice ta nt ct, .int .i64 fuel] w (RunPost w rs tape fuel) := by
  by_cases hv : valid (grs rs) false
  · obtain ⟨stF, h1, h2, h3⟩ := run_all (rs := rs) HM hv h.wf (fun r hr => (h.each r hr).nd) htw fuel hfu
    have hn : 0 < n := by have := hv.1.1; rw [length_grs, h.len] at this; omega
    obtain ⟨b, off, rfl, hb⟩ : ∃ b off, A = some ⟨b, off, none⟩ ∧ True := by
      obtain ⟨b, off, r, hA, _⟩ := h.gr hn
      exact ⟨b, off, hA, trivial⟩
    refine (run_okF resumeOK_free B b off n c rs ta nt ct tape fuel stF w h hB ht hnt (by omega) hv h1 _ rfl).mono ?_
    rintro e w' ⟨ev, rfl, hown, hbl⟩
    obtain ⟨A', c', rfl⟩ := own_slice hown
    exact ⟨A', c', _, 0, rfl, .inr ⟨hv, rfl, stF, h1, h2, h3, rfl⟩, hown, hbl⟩
  · refine (run_bad B n c A rs false ta nt ct fuel w h hB hv).mono ?_
    rintro e w' ⟨rfl, hbl⟩
    exact ⟨none, 0, mcI0 false [], 70, rfl, .inl ⟨hv, rfl, rfl⟩, own_none _ _ _ _, hbl⟩
end Go.Proofs.Ytlnccpojldiogaa

/-
  Package irun: less fuel is less of the same run: the mathematics.
-/
namespace Go.Proofs.Ytlnccpojldiogaa
set_option linter.unusedVariables false
set_option linter.unusedSimpArgs false

section
variable {rs : List RG} {st st1 st2 : IMc} {t : IFr} {bl : List IFr} {tape : List Int}
theorem beg_app (a l : List (Int × Int)) : beg a (a ++ l) = true := by
  unfold beg
  simp
theorem sam_self (a : List (Int × Int)) : sam a a = true := by unfold sam; simp
theorem start_facts (gs : List Gr) (bd : Bool) (tape : List Int) : (startI gs bd tape).endk = 0 ∧ (startI gs bd tape).steps = 0 := ⟨rfl, rfl⟩
theorem RunAns.len {fuel : Nat} {er : Int} (h : RunAns rs tape fuel er st) (hf : fuel ≤ 1000000) : st.evs.length ≤ 1000000 ∧ st.steps ≤ fuel := by
  obtain ⟨_, _, rfl⟩ | ⟨_, _, stF, h3, h4, _, rfl⟩ := h
  · exact ⟨Nat.zero_le _, Nat.zero_le _⟩
  · obtain ⟨_, _, h5⟩ := h3.grow
    rw [(start_facts _ _ _).2] at h5
    have h7 := h4.s4
    split
    · exact ⟨by omega, by omega⟩
    · exact ⟨by show stF.evs.length ≤ _; omega, by show stF.steps ≤ _; omega⟩
/-- two runs, one with less fuel -/
theorem fuel_math {a b : Nat} {e1 e2 : Int} (h1 : RunAns rs tape a e1 st1) (h2 : RunAns rs tape b e2 st2) (hab : a ≤ b) :
    e1 = e2 ∧ ((e1 ≠ 0 ∧ st1.evs = [] ∧ st2.evs = []) ∨ (e1 = 0 ∧ st1.endk ≠ 3 ∧ st1 = st2) ∨
      (e1 = 0 ∧ st1.endk = 3 ∧ st1.steps = a ∧ a ≤ st2.steps ∧ beg st1.evs st2.evs = true)) := by
  obtain ⟨v1, rfl, rfl⟩ | ⟨v1, rfl, f1, r1, g1, d1, q1⟩ := h1
  · obtain ⟨v2, rfl, rfl⟩ | ⟨v2, _⟩ := h2
    · exact ⟨rfl, .inl ⟨by decide, rfl, rfl⟩⟩
    · exact absurd v2 v1
  · obtain ⟨v2, _⟩ | ⟨v2, rfl, f2, r2, g2, d2, q2⟩ := h2
    · exact absurd v1 v2
    · refine ⟨rfl, .inr ?_⟩
      have h0 : (startI (grs rs) false tape).endk ≠ 3 := by rw [(start_facts _ _ _).1]; decide
      obtain ⟨a0, a2, a3⟩ := r1.grow
      have a1 := a0.endk h0
      have hsp : RunB rs false (b - a) f1 f2 := RunB.split r1 (by rw [show a + (b - a) = b by omega]; exact r2)
      obtain ⟨hg, c2, c3⟩ := hsp.grow
      rcases d1 with ⟨d1, d1'⟩ | d1
      · rw [if_neg (by omega)] at q1
        subst q1
        refine .inr ⟨rfl, rfl, d1', ?_, ?_⟩
        · subst q2
          split
          · omega
          · show a ≤ f2.steps
            omega
        · obtain ⟨l, hl⟩ := hg.evs
          subst q2
          split
          · show beg f1.evs f2.evs = true
            rw [hl]
            exact beg_app _ _
          · show beg f1.evs f2.evs = true
            rw [hl]
            exact beg_app _ _
      · have hx : f2 = f1 := hsp.over d1
        subst hx
        rw [if_pos d1] at q1 q2
        subst q1 q2
        exact .inl ⟨rfl, a1, rfl⟩
end
end Go.Proofs.Ytlnccpojldiogaa

/-
  Package irun: the statements' first; runs of literal graphs.
-/
namespace Go.Proofs.Ytlnccpojldiogaa
set_option linter.unusedVariables false
set_option linter.unusedSimpArgs false
open Go.ChangeShapes Go.WideShapes Go.ChangeAt Go.RowKit

def nd1 : Nd := ⟨1, 0, 0, 0, 0, 0, 0, 0, 7, [], 1, 0⟩
def nd2 : Nd := ⟨17, 0, 0, 0, 0, 0, 0, 0, 0, [], 2, 0⟩
def nd3 : Nd := ⟨12, 0, 0, 0, -1, 0, 0, 0, 0, [], 0, 0⟩
def grF : Gr := ⟨[], [0], 0, [], false, -1, [nd1, nd2, nd3], 0⟩
def rgF (z : Nat) : RG := ⟨grF, none, 0, some ⟨z, 0, none⟩, 1, none, 0, some ⟨z + 1, 0, none⟩, 3, [⟨nd1, none, 0⟩, ⟨nd2, none, 0⟩, ⟨nd3, none, 0⟩]⟩
theorem i64_lit {x : Int} (h : -9223372036854775808 ≤ x ∧ x ≤ 9223372036854775807) : I64 x := ⟨by omega, by omega⟩
theorem wfn1 : WfN nd1 := ⟨by decide, by decide, by decide, by decide, ⟨by decide, by decide⟩, ⟨by decide, by decide⟩, ⟨by decide, by decide⟩, ⟨by decide, by decide⟩, ⟨by decide, by decide⟩, ⟨by decide, by decide⟩, by decide, by decide, (fun x h => by cases h), ⟨by decide, by decide⟩, ⟨by decide, by decide⟩, by decide⟩
theorem wfn2 : WfN nd2 := ⟨by decide, by decide, by decide, by decide, ⟨by decide, by decide⟩, ⟨by decide, by decide⟩, ⟨by decide, by decide⟩, ⟨by decide, by decide⟩, ⟨by decide, by decide⟩, ⟨by decide, by decide⟩, by decide, by decide, (fun x h => by cases h), ⟨by decide, by decide⟩, ⟨by decide, by decide⟩, by decide⟩
theorem wfn3 : WfN nd3 := ⟨by decide, by decide, by decide, by decide, ⟨by decide, by decide⟩, ⟨by decide, by decide⟩, ⟨by decide, by decide⟩, ⟨by decide, by decide⟩, ⟨by decide, by decide⟩, ⟨by decide, by decide⟩, by decide, by decide, (fun x h => by cases h), ⟨by decide, by decide⟩, ⟨by decide, by decide⟩, by decide⟩
theorem mem3 {x : RN} (h : x ∈ [(⟨nd1, none, 0⟩ : RN), ⟨nd2, none, 0⟩, ⟨nd3, none, 0⟩]) : x.ao = none ∧ x.nd.args = [] ∧ WfN x.nd := by
  simp at h
  rcases h with rfl | rfl | rfl
  · exact ⟨rfl, rfl, wfn1⟩
  · exact ⟨rfl, rfl, wfn2⟩
  · exact ⟨rfl, rfl, wfn3⟩
theorem wfgF : WfG grF := ⟨(fun x h => by cases h), (by intro b hb; simp [grF] at hb; subst hb; decide), ⟨by decide, by decide⟩, (fun x h => by cases h), ⟨by decide, by decide⟩, (fun i hi => by
  have h3 : i = nd1 ∨ i = nd2 ∨ i = nd3 := by simpa [grF] using hi
  rcases h3 with rfl | rfl | rfl
  · exact wfn1
  · exact wfn2
  · exact wfn3), ⟨by decide, by decide⟩, by decide, by decide, by decide, by decide⟩
theorem rows_reads (w : World) (t : TypeId) (cs : List Value) (n size : Nat) (hs : cs.length = n * size) : Reads (w.alloc (.cells cs.toArray t)) (w.heap.size + 1) size (some ⟨w.heap.size, 0, none⟩) n cs :=
  ⟨hs, fun _ => ⟨_, rfl, by simp, fun j u hj => by
    have ea : (⟨w.heap.size, 0, none⟩ : Addr).add j = ⟨w.heap.size, j, none⟩ := by simp [Addr.add]; exact Eq.symm
    rw [ea, (Blk.new w t _).cell]
    simpa using hj⟩⟩
theorem lit_first (w : World) : RdP (((w.alloc (.cells #[.int .u8 0] 67)).alloc (.cells #[.int .u8 1, .int .u8 0, .int .i64 0, .int .i64 0, .int .i64 0, .int .i64 0, .int .i64 0, .int .i64 0, .int .u64 7, .slice none 0 0, .int .i64 1, .int .i64 0, .int .u8 17, .int .u8 0, .int .i64 0, .int .i64 0, .int .i64 0, .int .i64 0, .int .i64 0, .int .i64 0, .int .u64 0, .slice none 0 0, .int .i64 2, .int .i64 0, .int .u8 12, .int .u8 0, .int .i64 0, .int .i64 0, .int .i64 (-1), .int .i64 0, .int .i64 0, .int .i64 0, .int .u64 0, .slice none 0 0, .int .i64 0, .int .i64 0] 45)).alloc (.cells #[.slice none 0 0, .slice (some ⟨w.heap.size, 0, none⟩) 1 1, .int .i64 0, .slice none 0 0, .bool false, .int .i64 (-1), .slice (some ⟨w.heap.size + 1, 0, none⟩) 3 3, .int .i64 0] 48)) (w.heap.size + 3) (some ⟨w.heap.size + 2, 0, none⟩) 1 [rgF w.heap.size] := by
  have z1 : (w.alloc (.cells #[.int .u8 0] 67)).heap.size = w.heap.size + 1 := by simp
  have z2 : ((w.alloc (.cells #[.int .u8 0] 67)).alloc (.cells #[.int .u8 1, .int .u8 0, .int .i64 0, .int .i64 0, .int .i64 0, .int .i64 0, .int .i64 0, .int .i64 0, .int .u64 7, .slice none 0 0, .int .i64 1, .int .i64 0, .int .u8 17, .int .u8 0, .int .i64 0, .int .i64 0, .int .i64 0, .int .i64 0, .int .i64 0, .int .i64 0, .int .u64 0, .slice none 0 0, .int .i64 2, .int .i64 0, .int .u8 12, .int .u8 0, .int .i64 0, .int .i64 0, .int .i64 (-1), .int .i64 0, .int .i64 0, .int .i64 0, .int .u64 0, .slice none 0 0, .int .i64 0, .int .i64 0] 45)).heap.size = w.heap.size + 2 := by simp
  have h1 := rows_reads w 67 (u8c [0]) 1 1 rfl
  have h2 := rows_reads (w.alloc (.cells #[.int .u8 0] 67)) 45 (rnc (rgF w.heap.size).ns) 3 12 rfl
  have h3 := rows_reads ((w.alloc (.cells #[.int .u8 0] 67)).alloc (.cells #[.int .u8 1, .int .u8 0, .int .i64 0, .int .i64 0, .int .i64 0, .int .i64 0, .int .i64 0, .int .i64 0, .int .u64 7, .slice none 0 0, .int .i64 1, .int .i64 0, .int .u8 17, .int .u8 0, .int .i64 0, .int .i64 0, .int .i64 0, .int .i64 0, .int .i64 0, .int .i64 0, .int .u64 0, .slice none 0 0, .int .i64 2, .int .i64 0, .int .u8 12, .int .u8 0, .int .i64 0, .int .i64 0, .int .i64 (-1), .int .i64 0, .int .i64 0, .int .i64 0, .int .u64 0, .slice none 0 0, .int .i64 0, .int .i64 0] 45)) 48 (rgc [rgF w.heap.size]) 1 8 rfl
  rw [z1] at h2
  rw [z2] at h3
  have b12 : Below (w.heap.size + 1) (w.alloc (.cells #[.int .u8 0] 67)) ((w.alloc (.cells #[.int .u8 0] 67)).alloc (.cells #[.int .u8 1, .int .u8 0, .int .i64 0, .int .i64 0, .int .i64 0, .int .i64 0, .int .i64 0, .int .i64 0, .int .u64 7, .slice none 0 0, .int .i64 1, .int .i64 0, .int .u8 17, .int .u8 0, .int .i64 0, .int .i64 0, .int .i64 0, .int .i64 0, .int .i64 0, .int .i64 0, .int .u64 0, .slice none 0 0, .int .i64 2, .int .i64 0, .int .u8 12, .int .u8 0, .int .i64 0, .int .i64 0, .int .i64 (-1), .int .i64 0, .int .i64 0, .int .i64 0, .int .u64 0, .slice none 0 0, .int .i64 0, .int .i64 0] 45)) := (Below.refl _ _).alloc (by simp) _
  have b23 : Below (w.heap.size + 2) ((w.alloc (.cells #[.int .u8 0] 67)).alloc (.cells #[.int .u8 1, .int .u8 0, .int .i64 0, .int .i64 0, .int .i64 0, .int .i64 0, .int .i64 0, .int .i64 0, .int .u64 7, .slice none 0 0, .int .i64 1, .int .i64 0, .int .u8 17, .int .u8 0, .int .i64 0, .int .i64 0, .int .i64 0, .int .i64 0, .int .i64 0, .int .i64 0, .int .u64 0, .slice none 0 0, .int .i64 2, .int .i64 0, .int .u8 12, .int .u8 0, .int .i64 0, .int .i64 0, .int .i64 (-1), .int .i64 0, .int .i64 0, .int .i64 0, .int .u64 0, .slice none 0 0, .int .i64 0, .int .i64 0] 45)) (((w.alloc (.cells #[.int .u8 0] 67)).alloc (.cells #[.int .u8 1, .int .u8 0, .int .i64 0, .int .i64 0, .int .i64 0, .int .i64 0, .int .i64 0, .int .i64 0, .int .u64 7, .slice none 0 0, .int .i64 1, .int .i64 0, .int .u8 17, .int .u8 0, .int .i64 0, .int .i64 0, .int .i64 0, .int .i64 0, .int .i64 0, .int .i64 0, .int .u64 0, .slice none 0 0, .int .i64 2, .int .i64 0, .int .u8 12, .int .u8 0, .int .i64 0, .int .i64 0, .int .i64 (-1), .int .i64 0, .int .i64 0, .int .i64 0, .int .u64 0, .slice none 0 0, .int .i64 0, .int .i64 0] 45)).alloc (.cells #[.slice none 0 0, .slice (some ⟨w.heap.size, 0, none⟩) 1 1, .int .i64 0, .slice none 0 0, .bool false, .int .i64 (-1), .slice (some ⟨w.heap.size + 1, 0, none⟩) 3 3, .int .i64 0] 48)) := (Below.refl _ _).alloc (by simp) _
  have k1 : Reads (((w.alloc (.cells #[.int .u8 0] 67)).alloc (.cells #[.int .u8 1, .int .u8 0, .int .i64 0, .int .i64 0, .int .i64 0, .int .i64 0, .int .i64 0, .int .i64 0, .int .u64 7, .slice none 0 0, .int .i64 1, .int .i64 0, .int .u8 17, .int .u8 0, .int .i64 0, .int .i64 0, .int .i64 0, .int .i64 0, .int .i64 0, .int .i64 0, .int .u64 0, .slice none 0 0, .int .i64 2, .int .i64 0, .int .u8 12, .int .u8 0, .int .i64 0, .int .i64 0, .int .i64 (-1), .int .i64 0, .int .i64 0, .int .i64 0, .int .u64 0, .slice none 0 0, .int .i64 0, .int .i64 0] 45)).alloc (.cells #[.slice none 0 0, .slice (some ⟨w.heap.size, 0, none⟩) 1 1, .int .i64 0, .slice none 0 0, .bool false, .int .i64 (-1), .slice (some ⟨w.heap.size + 1, 0, none⟩) 3 3, .int .i64 0] 48)) (w.heap.size + 3) 1 (some ⟨w.heap.size, 0, none⟩) 1 (u8c [0]) := ((h1.below b12).below (b23.mono (by omega))).more (by omega)
  have k2 : Reads (((w.alloc (.cells #[.int .u8 0] 67)).alloc (.cells #[.int .u8 1, .int .u8 0, .int .i64 0, .int .i64 0, .int .i64 0, .int .i64 0, .int .i64 0, .int .i64 0, .int .u64 7, .slice none 0 0, .int .i64 1, .int .i64 0, .int .u8 17, .int .u8 0, .int .i64 0, .int .i64 0, .int .i64 0, .int .i64 0, .int .i64 0, .int .i64 0, .int .u64 0, .slice none 0 0, .int .i64 2, .int .i64 0, .int .u8 12, .int .u8 0, .int .i64 0, .int .i64 0, .int .i64 (-1), .int .i64 0, .int .i64 0, .int .i64 0, .int .u64 0, .slice none 0 0, .int .i64 0, .int .i64 0] 45)).alloc (.cells #[.slice none 0 0, .slice (some ⟨w.heap.size, 0, none⟩) 1 1, .int .i64 0, .slice none 0 0, .bool false, .int .i64 (-1), .slice (some ⟨w.heap.size + 1, 0, none⟩) 3 3, .int .i64 0] 48)) (w.heap.size + 3) 12 (some ⟨w.heap.size + 1, 0, none⟩) 3 (rnc (rgF w.heap.size).ns) := (h2.below b23).more (by omega)
  refine ⟨h3, rfl, fun r hr => ?_, fun r hr => ?_, by omega⟩
  · obtain rfl : r = rgF w.heap.size := by simpa using hr
    refine ⟨Reads.none_, k1, Reads.none_, ⟨k2, rfl, fun i hi => ?_, fun i hi => (mem3 hi).2.2⟩, rfl, Nat.le_refl _⟩
    obtain ⟨m1, m2, _⟩ := mem3 hi
    refine ⟨?_, by rw [m2]; exact Nat.zero_le _⟩
    rw [m1, m2]
    exact Reads.none_
  · obtain rfl : r = rgF w.heap.size := by simpa using hr
    exact wfgF
theorem valid_first (z : Nat) : valid (grs [rgF z]) false := firstV
section
variable {rs : List RG} {st st2 x a : IMc} {bd : Bool}
theorem StepB.stepI (hns : ∀ r ∈ rs, nds r.ns = r.gr.nodes) (h : StepB rs bd st st2) (hs : Go.Proofs.Ytlnccpojldiogaa.stepI (grs rs) bd st = some x) : st2 = x := by
  obtain ⟨t, bl, r, nd, k, s1, N, a1, _, a2, a3, a4, _, _, _, a8, a10, _⟩ := h
  have hn : r.gr.nodes[k]? = some nd.nd := by
    rw [← hns r (List.mem_of_getElem? a2)]
    unfold nds
    rw [List.getElem?_map, a3]
    rfl
  unfold Go.Proofs.Ytlnccpojldiogaa.stepI at hs
  rw [a1] at hs a8
  simp only [] at hs
  rw [grOf_at a2, a4, Int.toNat_natCast, hn] at hs
  simp only [] at hs
  rw [if_pos (by omega)] at hs
  rw [a8] at hs
  exact settle_one a10 hs
theorem RunB.runs (hns : ∀ r ∈ rs, nds r.ns = r.gr.nodes) : ∀ {n : Nat} {st a x : IMc}, RunB rs bd n st a → runsI (grs rs) bd st n = some x → a = x
  | 0, st, a, x, h, hs => by
    have h1 : a = st := h
    have h2 : some st = some x := hs
    injection h2 with h2
    rw [h1, h2]
  | n + 1, st, a, x, h, hs => by
    unfold RunB at h
    unfold runsI at hs
    by_cases hd : st.doing = 3
    · rw [if_pos hd] at h hs
      injection hs with hs
      rw [h, hs]
    · rw [if_neg hd] at h hs
      obtain ⟨y, e1, e2⟩ := h
      obtain ⟨z, f1, f2⟩ := Option.bind_eq_some_iff.1 hs
      have := e1.stepI hns f1
      subst this
      exact RunB.runs hns e2 f2
/-- a run that the plain machine tells -/
theorem RunAns.plain {tape : List Int} {fuel : Nat} {er : Int} (hns : ∀ r ∈ rs, nds r.ns = r.gr.nodes) (hv : valid (grs rs) false) (h : RunAns rs tape fuel er st) (hp : runPI (grs rs) false tape fuel = some x) : er = 0 ∧ st = x := by
  obtain ⟨v1, _⟩ | ⟨_, rfl, stF, h3, _, _, rfl⟩ := h
  · exact absurd hv v1
  · unfold runPI at hp
    obtain ⟨y, f1, f2⟩ := Option.map_eq_some_iff.1 hp
    have := h3.runs hns f1
    subst this
    exact ⟨rfl, f2⟩
theorem run_first (z : Nat) {er : Int} (h : RunAns [rgF z] [] 10 er st) : er = 0 ∧ st.evs = [(1, 7)] ∧ st.endk = 1 ∧ st.endv = 0 ∧ st.steps = 3 := by
  obtain ⟨x, hx⟩ : ∃ x, runPI (grs [rgF z]) false [] 10 = some x := by
    have h1 : (runPI firstG false [] 10).map (fun st => (st.evs, st.doing, st.endk, st.endv, st.steps)) = _ := firstI
    obtain ⟨x, h2, _⟩ := Option.map_eq_some_iff.1 h1
    exact ⟨x, h2⟩
  obtain ⟨e1, rfl⟩ := h.plain (fun r hr => by
    have e : r = rgF z := by simpa using hr
    subst e
    rfl) (valid_first z) hx
  have h1 : (runPI firstG false [] 10).map (fun st => (st.evs, st.doing, st.endk, st.endv, st.steps)) = _ := firstI
  obtain ⟨y, h2, h3⟩ := Option.map_eq_some_iff.1 h1
  have h4 : some st = some y := hx.symm.trans h2
  injection h4 with h4
  subst h4
  simp only [Prod.mk.injEq] at h3
  exact ⟨e1, h3.1, h3.2.2.1, h3.2.2.2.1, h3.2.2.2.2⟩
set_option maxRecDepth 100000 in
set_option maxHeartbeats 3200000 in
theorem first8_any (HM : MoveOK false) (w : World) : Calls Try.prog 9 #[] w fun e w' => e = .returned (.bool true) ∧ Below w.heap.size w w' := by
  have HW1 : Hid (Below w.heap.size w (((w.alloc (.cells #[.int .u8 0] 67)).alloc (.cells #[.int .u8 1, .int .u8 0, .int .i64 0, .int .i64 0, .int .i64 0, .int .i64 0, .int .i64 0, .int .i64 0, .int .u64 7, .slice none 0 0, .int .i64 1, .int .i64 0, .int .u8 17, .int .u8 0, .int .i64 0, .int .i64 0, .int .i64 0, .int .i64 0, .int .i64 0, .int .i64 0, .int .u64 0, .slice none 0 0, .int .i64 2, .int .i64 0, .int .u8 12, .int .u8 0, .int .i64 0, .int .i64 0, .int .i64 (-1), .int .i64 0, .int .i64 0, .int .i64 0, .int .u64 0, .slice none 0 0, .int .i64 0, .int .i64 0] 45)).alloc (.cells #[.slice none 0 0, .slice (some ⟨w.heap.size, 0, none⟩) 1 1, .int .i64 0, .slice none 0 0, .bool false, .int .i64 (-1), .slice (some ⟨w.heap.size + 1, 0, none⟩) 3 3, .int .i64 0] 48))) := Lib.hid ((((Below.refl _ _).alloc (Nat.le_refl _) _).alloc (by simp) _).alloc (by simp; omega) _)
  have HZ3 : Hid ((((w.alloc (.cells #[.int .u8 0] 67)).alloc (.cells #[.int .u8 1, .int .u8 0, .int .i64 0, .int .i64 0, .int .i64 0, .int .i64 0, .int .i64 0, .int .i64 0, .int .u64 7, .slice none 0 0, .int .i64 1, .int .i64 0, .int .u8 17, .int .u8 0, .int .i64 0, .int .i64 0, .int .i64 0, .int .i64 0, .int .i64 0, .int .i64 0, .int .u64 0, .slice none 0 0, .int .i64 2, .int .i64 0, .int .u8 12, .int .u8 0, .int .i64 0, .int .i64 0, .int .i64 (-1), .int .i64 0, .int .i64 0, .int .i64 0, .int .u64 0, .slice none 0 0, .int .i64 0, .int .i64 0] 45)).alloc (.cells #[.slice none 0 0, .slice (some ⟨w.heap.size, 0, none⟩) 1 1, .int .i64 0, .slice none 0 0, .bool false, .int .i64 (-1), .slice (some ⟨w.heap.size + 1, 0, none⟩) 3 3, .int .i64 0] 48)).heap.size = w.heap.size + 3) := Lib.hid (by simp)
  have HC := Lib.hid (run_full HM (w.heap.size + 3) 1 1 _ _ none 0 0 [] 10 _ (lit_first w) (by simp) Reads.none_ (by omega) (fun v hv => by cases hv) (by omega))
  have HR : Hid (∀ er st, RunAns [rgF w.heap.size] [] 10 er st → er = 0 ∧ st.evs = [(1, 7)] ∧ st.endk = 1 ∧ st.endv = 0 ∧ st.steps = 3) := Lib.hid fun er st h => run_first _ h
  go_enter Try.func9, Try.ntmps9
  go_wp2_with (go_at_call 10; refine HC.out.mono ?_; rintro e w2 ⟨A, c, st, er, rfl, hra, hown, hb2⟩; have HRA := Lib.hid hra; have HOWN := Lib.hid hown; have HB2 := Lib.hid hb2; clear hra hown hb2; refine Hid.out ?_)
  obtain ⟨rfl, q1, q2, q3, q4⟩ := HR.out _ _ HRA.out
  have ho := HOWN.out
  rw [q1] at ho
  obtain ⟨b, off, rfl, hb, hc⟩ := (Reads.of_own ho).lit (by decide) (by decide)
  have x1 := hc 1 _ rfl
  rw [q1, q2, q3, q4]
  have HBF : Hid (Below w.heap.size w w2) := Lib.hid (HW1.out.trans (HB2.out.mono (by rw [HZ3.out]; omega)))
  clear HR HRA HOWN ho hc
  refine Lib.hid ?_
  go_wp2
  go_ret
  exact ⟨rfl, HBF.out.alloc (Below.size HBF.out) _⟩
end
end Go.Proofs.Ytlnccpojldiogaa
