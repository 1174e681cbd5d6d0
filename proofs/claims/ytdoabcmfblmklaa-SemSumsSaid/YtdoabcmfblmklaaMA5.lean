/-
  Texts of one seat, one behind the other: SArgF, SExe6, SDelay, SJoin, SStep, SStart, SRun, KTak, KWs.
-/
import Derived.Deep.RegionLaw
import Derived.Deep.QuietTactic
import Derived.StillTailTactics
import Derived.Test.YtdoabcmfblmklaaMA2
import Derived.Test.YtdoabcmfblmklaaMA3
import Derived.Test.YtdoabcmfblmklaaMA4
import Derived.Test.YtdoabcmfblmklaaMA1

/-
  Package sem: args, and what it leaves alone.
-/
namespace Go.Proofs.Ytdoabcmfblmklaa
set_option linter.unusedVariables false
set_option linter.unusedSimpArgs false
open Go.ChangeShapes Go.WideShapes Go.ChangeAt Go.RowKit

section
variable {w0 W W' w8 W1 : World} {ow ow' : Nat → Nat} {ex : Nat → Prop} {rb tg fa fo n c : Nat} {rs : List Raw} {st st' : Mc} {g g' : RG} {t : Fr} {bl : List Fr} {gl : List (Nat × Nat)} {pbs : List Nat} {fb b : Nat}
def ArgsF (w0 : World) (rb tg fa fo n c : Nat) (rs : List Raw) (st : Mc) (gs : List (Nat × Nat)) (pbs : List Nat) (p : Nat) (args : List Int) (fb : Nat) (W : World) (e : Ending) (w' : World) : Prop :=
  ∃ AA cA, e = .returned (.slice AA p cA) ∧ p ≤ cA ∧ (AA = none → p = 0) ∧ RunA w0 rb tg fa fo n c rs st gs pbs AA p args w' ∧ w'.heap.size = W.heap.size ∧ ∀ g i, g ≠ fb → w'.cell? ⟨g, i, none⟩ = W.cell? ⟨g, i, none⟩

set_option maxRecDepth 100000 in
set_option maxHeartbeats 3200000 in
theorem args_far (k p : Nat) (r : Raw) (h : RunX w0 rb tg fa fo n c rs st ((fb, b) :: gl) pbs W) (hf : st.frames = t :: bl) (hr : rs[k]? = some r) (hp : r.fn.params = (p : Int)) (hpl : p ≤ t.stack.length) (hs : t.stack.length ≤ 1048576) :
    Calls Try.prog 41 #[.pointer (some ⟨rb, 0, none⟩), .pointer (some ⟨fb, 0, none⟩), .int .i64 k] W (ArgsF w0 rb tg fa fo n c rs (st.top (t.cut p) bl) ((fb, b) :: gl) pbs p (argsOf (fns rs) k t.stack) fb W) := by
  obtain ⟨g, ow, fg, gs, hR, hg, rfl, rfl, hgl, hpb, hF⟩ := h.open_ hf
  have hk : k < n := by rw [← hR.prog.len]; exact (List.getElem?_eq_some_iff.1 hr).1
  obtain ⟨b0, off0, r', hA0, hb0, HX, HRF, HWF, x0, x1, x2, x3, x4⟩ := hR.prog.fn hk
  have hrr : r' = r := by have h := HX.out; rw [hr] at h; injection h with h; exact h.symm
  subst hrr
  obtain ⟨rfl, rfl⟩ : fa = b0 ∧ fo = off0 := by injection hA0 with hA0; injection hA0 with h1 h2; exact ⟨h1, h2⟩
  rw [hp] at x0
  have hbz : w0.heap.size ≤ W.heap.size := hR.below.size
  have hfz : fa < W.heap.size := by omega
  have hrz : rb < W.heap.size := hR.run.blk.lt
  have c0 : W.cell? ⟨rb, 0, none⟩ = some (.slice (some ⟨fa, fo, none⟩) n c) := hR.run.blk.cell 0
  obtain ⟨L, hL⟩ : ∃ L, L = t.stack.length := ⟨_, rfl⟩
  have hLs : L ≤ 1048576 := by rw [hL]; exact hs
  obtain ⟨A, cs, hsv⟩ := hF.stk.slice
  obtain ⟨q, hq⟩ : ∃ q, q = fg.fb := ⟨_, rfl⟩
  have hqz : q < W.heap.size := by rw [hq]; exact hF.blk.blk.lt
  have c3 : W.cell? ⟨q, 3, none⟩ = some (.slice A L cs) := by rw [hq, hF.blk.blk.cell, hL, ← hsv]; exact frC_3
  have f3 : W.frozen? ⟨q, 3, none⟩ = false := by rw [hq]; exact hF.blk.blk.frozen 3
  obtain ⟨a, ha⟩ : ∃ a : Nat, a + p = L := ⟨L - p, by omega⟩
  have hsub : (L : Int) - (p : Int) = (a : Int) := by omega
  have hS := hF.stk
  rw [hsv, ← hL] at hS
  have hcap : L ≤ cs := own_cap hS.own
  have hpar : (fnOf (fns rs) k).params.toNat = p := by rw [fnOf_at hr, hp]; simp
  have harg : u64c (argsOf (fns rs) k t.stack) = (u64c t.stack.reverse).drop (a * 1) := by
    rw [argsOf_drop hpar hpl, u64c_drop, ← hL, Nat.mul_one, show L - p = a by omega]
  have HFIN0 : Hid (RunA w0 rb tg fa fo n c rs (st.top (t.cut p) bl) ((q, fg.by_) :: gl) pbs (if cs = a then A else A.map (·.add (a * 1))) p (argsOf (fns rs) k t.stack) (W.setCell ⟨q, 3, none⟩ (.slice A a cs))) := Lib.hid (by
    obtain ⟨hB8, hO8, hkr⟩ := cut_set (k := a) hF.blk hS (by omega) (by omega) 3
    have hO9 : OR (W.setCell ⟨fg.fb, 3, none⟩ (.slice A a cs)) ow w0.heap.size (3 * bl.length + 12) 30 1 (.slice A a cs) (t.stack.drop p).length (u64c (t.stack.drop p).reverse) := by
      have e1 : (t.stack.drop p).length = a := by rw [List.length_drop]; omega
      have e2 : u64c (t.stack.drop p).reverse = (u64c t.stack.reverse).take (a * 1) := by
        rw [List.reverse_drop, u64c_take, ← hL, Nat.mul_one, show L - p = a by omega]
      rw [e1, e2]; exact hO8
    have hRn := hR.top_ hf hg hkr (fun x hx => by have : x = _ := hx; omega) (hF.stk_ (s := t.stack.drop p) hkr (fun x hx => .inl hx) hB8 hO9) rfl rfl
    rw [hq]
    refine ⟨_, ow, hRn, by simp [hgl], hpb, ?_, fun ad had => ?_⟩
    · rw [harg]
      have h1 := (Reads.of_own hS.own).cut (k := a) (by omega) hcap
      rw [show L - a = p by omega] at h1
      have h2 : Reads (W.setCell ⟨fg.fb, 3, none⟩ (.slice A a cs)) W.heap.size 1 (if cs = a then A else A.map (·.add (a * 1))) p ((u64c t.stack.reverse).drop (a * 1)) := by
        refine ⟨h1.1, fun hp0 => ?_⟩
        obtain ⟨ad, e1, e2, e3⟩ := h1.2 hp0
        refine ⟨ad, e1, e2, fun j u hu => (World.cell?_of_block ?_).trans (e3 j u hu)⟩
        rw [block_of_add]
        have hne : ad.block ≠ fg.fb := by
          have hno := own_blk_ne hS.own hF.blk.blk (by unfold frT; split; · decide
                                                       split; · decide
                                                       split <;> decide)
          intro he
          cases hA : A with
          | none => rw [hA] at e1; split at e1 <;> cases e1
          | some a0 =>
            rw [hA] at e1 hno
            have hb : ad.block = a0.block := by
              split at e1
              · injection e1 with e1; rw [← e1]
              · injection e1 with e1; rw [← e1, block_of_add]
            apply hno
            show some a0.block = some fg.fb
            rw [← hb, he]
        exact Below.heap_setCell _ _ _ _ hne
      exact h2.more (by simp [World.setCell])
    · cases hA : A with
      | none => rw [hA] at had; split at had <;> cases had
      | some a0 =>
        rw [hA] at had
        have hb : ad.block = a0.block := by
          split at had
          · injection had with had; rw [← had]
          · injection had with had; rw [← had, block_of_add]
        have h5 := hS.role a0.block (by rw [hA]; rfl)
        rw [hb, h5]
        omega)
  have HFORM : Hid (A = none → L = 0 ∧ cs = 0) := Lib.hid (fun hA => by
    rcases hS.own.2 with ⟨he, h0⟩ | ⟨q', cap, cur, he, _⟩
    · injection he with _ _ h3; exact ⟨h0, h3⟩
    · injection he with h1; rw [hA] at h1; cases h1)
  have HFORS : Hid (∀ a0, A = some a0 → ∃ q', a0 = ⟨q', 0, none⟩) := Lib.hid (fun a0 hA => by
    rcases hS.own.2 with ⟨he, h0⟩ | ⟨q', cap, cur, he, _⟩
    · injection he with h1; rw [hA] at h1; cases h1
    · injection he with h1; rw [hA] at h1; injection h1 with h1; exact ⟨q', h1⟩)
  rw [← hq]
  clear h hR hF hf hg hgl hpb hsv hS hq hr hp hpl hpar harg HX HRF HWF hA0 hL x1 x2 x3 x4
  have HFIN : Hid (∀ AA, (cs = a ∧ AA = A) ∨ (cs ≠ a ∧ AA = A.map (·.add (a * 1))) → RunA w0 rb tg fa fo n c rs (st.top (t.cut p) bl) ((q, fg.by_) :: gl) pbs AA p (argsOf (fns rs) k t.stack) (W.setCell ⟨q, 3, none⟩ (.slice A a cs))) := Lib.hid (by
    intro AA hAA
    have h1 := HFIN0.out
    rcases hAA with ⟨h2, rfl⟩ | ⟨h2, rfl⟩
    · rw [if_pos h2] at h1; exact h1
    · rw [if_neg h2] at h1; exact h1)
  clear HFIN0
  have hpL : p ≤ L := by omega
  have haL : a ≤ L := by omega
  cases A with
  | none =>
    obtain ⟨h0, h1⟩ := HFORM.out rfl
    have HF := Lib.hid (HFIN.out none (by
      by_cases hca : cs = a
      · exact .inl ⟨hca, rfl⟩
      · exact .inr ⟨hca, rfl⟩))
    obtain rfl : L = 0 := h0
    obtain rfl : cs = 0 := h1
    obtain rfl : a = 0 := by omega
    obtain rfl : p = 0 := by omega
    clear HFIN HFORM HFORS hsub
    go_enter Try.func41, Try.ntmps41
    go_wp2
    go_region
    go_wp2
    go_ret
    refine ⟨none, 0, rfl, Nat.le_refl _, fun _ => rfl, ?_, (by simp [World.setCell, World.drewN]), fun g i hg => World.cell?_setCell_other W ⟨q, 3, none⟩ ⟨g, i, none⟩ _ (by simp; try (intro h; exact absurd h hg))⟩
    exact RunA.on HF.out ⟨rfl, rfl, rfl, Nat.le_refl _, fun _ _ => rfl⟩
  | some a0 =>
    obtain ⟨q', rfl⟩ := HFORS.out a0 rfl
    by_cases hca : cs = a
    · have HF := Lib.hid (HFIN.out _ (.inl ⟨hca, rfl⟩))
      subst hca
      obtain rfl : p = 0 := by omega
      obtain rfl : L = cs := by omega
      clear HFIN HFORM HFORS
      go_enter Try.func41, Try.ntmps41
      go_wp2
      go_region
      go_wp2
      go_ret
      refine ⟨_, _, rfl, Nat.zero_le _, (fun h => by cases h), ?_, (by simp [World.setCell, World.drewN]), fun g i hg => World.cell?_setCell_other W ⟨q, 3, none⟩ ⟨g, i, none⟩ _ (by simp; try (intro h; exact absurd h hg))⟩
      exact RunA.on HF.out ⟨rfl, rfl, rfl, Nat.le_refl _, fun _ _ => rfl⟩
    · have HF := Lib.hid (HFIN.out _ (.inr ⟨hca, rfl⟩))
      have hLa : L - a = p := by omega
      have hpc : p ≤ cs - a := by omega
      have ha0 : (0 : Int) ≤ (a : Int) := by omega
      have haLi : (a : Int) ≤ (L : Int) := by omega
      clear HFIN HFORM HFORS
      go_enter Try.func41, Try.ntmps41
      go_wp2
      go_region
      go_wp2
      go_ret
      refine ⟨some ⟨q', a, none⟩, cs - a, rfl, hpc, (fun h => by cases h), ?_, (by simp [World.setCell, World.drewN]), fun g i hg => World.cell?_setCell_other W ⟨q, 3, none⟩ ⟨g, i, none⟩ _ (by simp; try (intro h; exact absurd h hg))⟩
      have ea : (⟨q', 0, none⟩ : Addr).add (a * 1) = ⟨q', a, none⟩ := by rw [Nat.mul_one]; unfold Addr.add; split <;> simp_all
      have e1 : Option.map (fun x => Addr.add x (a * 1)) (some (⟨q', 0, none⟩ : Addr)) = some ⟨q', a, none⟩ := by rw [Option.map_some, ea]
      rw [← e1]
      exact RunA.on HF.out ⟨rfl, rfl, rfl, Nat.le_refl _, fun _ _ => rfl⟩
end
end Go.Proofs.Ytdoabcmfblmklaa

/-
  Package sem: execute, a call.
-/
namespace Go.Proofs.Ytdoabcmfblmklaa
set_option linter.unusedVariables false
set_option linter.unusedSimpArgs false
open Go.ChangeShapes Go.WideShapes Go.ChangeAt Go.RowKit

section
variable {W : World} {rb fb fa fo : Nat} {Q QN : World → Prop} {QA : Option Addr → Nat → World → Prop}
set_option maxRecDepth 100000 in
set_option maxHeartbeats 6400000 in
theorem exe_call (m : Int) (k p mem : Nat) (hz : fb < W.heap.size)
    (HA : ∀ W', Below W.heap.size W W' → Calls Try.prog 41 #[.pointer (some ⟨rb, 0, none⟩), .pointer (some ⟨fb, 0, none⟩), .int .i64 k] W' fun e w' => ∃ AA cA, e = .returned (.slice AA p cA) ∧ QA AA cA w' ∧ w'.heap.size = W'.heap.size ∧ ∀ g i, g ≠ fb → w'.cell? ⟨g, i, none⟩ = W'.cell? ⟨g, i, none⟩)
    (HN : ∀ AA cA w', QA AA cA w' → Calls Try.prog 15 #[.pointer (some ⟨rb, 0, none⟩), .int .i64 k, .slice AA p cA] w' fun e w2 => e = .returned (callV fa fo k mem) ∧ QN w2)
    (HG : ∀ w2, QN w2 → Calls Try.prog 14 #[.pointer (some ⟨rb, 0, none⟩), .iface 112 (.pointer (some ⟨w2.heap.size, 0, none⟩))] (w2.alloc (.cells #[.pointer (some ⟨fa, fo + k * 5, none⟩), .int .i64 0, .int .i64 mem, .slice none 0 0, .slice none 0 0, .int .u64 0] 114)) fun e w' => e = .returned (.tuple #[]) ∧ Q w') :
    Calls Try.prog 25 #[.pointer (some ⟨rb, 0, none⟩), .pointer (some ⟨fb, 0, none⟩), .agg #[.int .u8 23, .int .i64 k, .int .u64 m]] W fun e w' => e = .returned (.tuple #[]) ∧ Q w' := by
  have HB1 : Hid (∀ o, Below W.heap.size W (W.alloc o)) := Lib.hid fun o => (Below.refl _ _).alloc (Nat.le_refl _) o
  have HP := Lib.hid HA
  have HQ := Lib.hid HN
  have HR := Lib.hid HG
  have hne : W.heap.size ≠ fb := by omega
  have HX : Hid ((W.alloc (.cells #[.int .u8 23, .int .i64 k, .int .u64 m] 43)).cell? ⟨W.heap.size, 1, none⟩ = some (.int .i64 k)) := Lib.hid ((Blk.new W _ _).cell 1)
  unfold callV at HQ
  clear HA HN HG
  go_enter Try.func25, Try.ntmps25
  go_wp2
  go_region_law (first
    | (go_simp; go_at_call 41; refine (HP.out _ (by first | exact HB1.out _ | exact (HB1.out _).drew)).mono ?_; rintro e w2 ⟨AA, cA, rfl, h2, hs2, hf2⟩; have H2 := Lib.hid h2; have q1 : w2.cell? ⟨W.heap.size, 1, none⟩ = some (.int .i64 k) := (hf2 _ _ hne).trans HX.out; clear h2 hs2 hf2)
    | (go_simp; go_at_call 15; refine (HQ.out AA cA w2 H2.out).mono ?_; rintro e w3 ⟨rfl, h3⟩; have H3 := Lib.hid h3; clear h3)
    | (go_simp; go_at_call 14; refine (HR.out w3 H3.out).mono ?_; rintro e w4 ⟨rfl, h4⟩; have H4 := Lib.hid h4; clear h4))
  all_goals
    go_wp2
  all_goals
    go_end0
    exact ⟨rfl, H4.out⟩
end
end Go.Proofs.Ytdoabcmfblmklaa

/-
  Package sem: delay: a call is deferred.
-/
namespace Go.Proofs.Ytdoabcmfblmklaa
set_option linter.unusedVariables false
set_option linter.unusedSimpArgs false
open Go.ChangeShapes Go.WideShapes Go.ChangeAt Go.RowKit

theorem info_dfr : (Try.prog.info? 118).map (fun i => (i.zero, i.size, i.bytes)) = some (some (.agg #[.int .i64 0, .slice none 0 0]), 2, 32) := by kernel_rfl
theorem step_dfr {w : World} {ops : Array Oper} {o : Oper} {a : Act} {K : Act → World → Prop} {Q : Exit → Act → World → Prop} {E : Prop} (hgd : o.guard = none) (s x : Operand)
    (ho : o.op = .call { callee := .builtin .append, args := #[s, x], argTypes := #[72, 72] }) (base : Nat)
    (v : Value) (n : Nat) (xs : List Value) (hs : a.eval s = v) (hown : w.ownsRow base 118 2 v n xs)
    (B : Nat) (A : Option Addr) (m c : Nat) (news : List Value) (hx : a.eval x = .slice A m c) (hr : Reads w B 2 A m news) (h1 : ∀ u ∈ news, u.oneCell' = true)
    (hbytes : (n + m) * 32 ≤ 140737488355328) (hbase : base ≤ w.heap.size)
    (h : ∀ v' w', w'.ownsRow base 118 2 v' (n + m) (xs ++ news) → w.grownBy w' v.ownBlock → (v'.ownBlock = v.ownBlock ∨ v'.ownBlock = some w.heap.size) → K (a.put o.dst v') w') :
    if Region.wanted o (yielded ops a.tmps) = true then Oper.wp Try.prog o a w K Q else E := by
  obtain ⟨i0, hi, hz0, hz1, hz2⟩ := info_parts info_dfr
  exact step_append_any w hgd s x _ ho base 118 i0 (.agg #[.int .i64 0, .slice none 0 0]) 2 32 Try.underlying72 hi hz0 hz1 hz2 rfl (by decide) v n xs hs hown B A m c news hx hr h1 (by unfold maxLen; omega) hbytes hbase h
set_option maxHeartbeats 800000 in
theorem clone_u64 (B : Nat) (ao : Option Addr) (n c : Nat) (xs : List Int) (w : World) (h : Reads w B 1 ao n (u64c xs)) (hB : B ≤ w.heap.size) (hr : n * 8 ≤ 140737488355328) :
    Calls Try.prog 23 #[.slice ao n c] w fun e w' => ∃ v', e = .returned v' ∧ w'.ownsRow w.heap.size 30 1 v' n (u64c xs) ∧ Below w.heap.size w w' := by
  obtain ⟨i0, hi, hz0, hz1, hz2⟩ := info_parts info_u64
  have q22 : ∀ (w : World) (a : Option Addr) (n c n' c' : Nat), (binOp .eql 25 (.slice a n c) (.slice none n' c')).run Try.prog w = .ok (.bool a.isNone) w := fun w a n c n' c' => Lib.run_eql_slice_nil w _ _ a n c n' c' Try.underlying25
  have HH := Lib.hid h
  clear h
  cases ao with
  | none =>
    have hn : n = 0 := by
      rcases Nat.eq_zero_or_pos n with h0 | h0
      · exact h0
      · obtain ⟨ad, e, _⟩ := HH.out.2 h0
        cases e
    go_enter Try.func23, Try.ntmps23
    go_wp2
    go_ret
    refine ⟨_, rfl, ?_, Below.refl _ _⟩
    have hl := HH.out.1
    subst hn
    have hx : u64c xs = [] := List.eq_nil_of_length_eq_zero (by simpa using hl)
    rw [hx]
    exact ⟨rfl, .inl ⟨rfl, rfl⟩⟩
  | some ad =>
    go_enter Try.func23, Try.ntmps23
    go_wp2_with (at_builtin; refine wpList_append_any _ rfl _ _ 25 rfl w.heap.size 30 i0 (.int .u64 0) 1 8 Try.underlying25 hi hz0 hz1 hz2 rfl (by decide) _ 0 [] rfl (World.ownsRow_made w #[] 0 (Nat.le_refl _) (Nat.zero_le _) (by simp)) B (some ad) n c (u64c xs) rfl (HH.out.alloc hB _) (u64c_one xs) (by unfold maxLen; omega) (by omega) (by simp) ?_; intro v' w1 hown hgr _)
    go_wp2
    go_ret
    refine ⟨v', rfl, by simpa using hown, ((Below.refl _ _).alloc (Nat.le_refl _) _).grown hgr (by simp) ?_⟩
    intro k hk
    injection hk with hk
    exact Nat.le_of_eq hk
theorem reads_dfr (W : World) (k : Int) (v : Value) : Reads (W.alloc (.cells #[.int .i64 k, v] 118)) (W.heap.size + 1) 2 (some ⟨W.heap.size, 0, none⟩) 1 [.int .i64 k, v] := ⟨rfl, fun _ => ⟨_, rfl, by simp, fun j x hj => by
  have ea : (⟨W.heap.size, 0, none⟩ : Addr).add j = ⟨W.heap.size, j, none⟩ := by simp [Addr.add]; exact Eq.symm
  rw [ea, (Blk.new W _ _).cell]
  simpa using hj⟩⟩
section
variable {w0 W W' w8 W1 : World} {ow ow' : Nat → Nat} {ex : Nat → Prop} {base rb tg fa fo n c k : Nat} {rs : List Raw} {st st' : Mc} {g g' : RG} {t : Fr} {bl : List Fr} {gl : List (Nat × Nat)} {pbs : List Nat} {fb b : Nat}
/-- a frame's deferred calls are another row -/
theorem FrAt.dfr_ {fg : FG} {v : Value} {ds : List Df} {vs : List Value} (h : FrAt W ow base fa fo k t fg) (kr : Kr ex ow ow' W W') (hex : ∀ x, ex x → x = 3 * k + 11 ∨ x = 3 * k + 13) (h1 : OB W' ow' base (3 * k + 11) fg.fb (frT t.why) ((frC fa fo t fg).setIfInBounds 4 v)) (h2 : OR W' ow' base (3 * k + 13) 118 2 v ds.length (dfc ds vs))
    (h3 : ∀ (j : Nat) d, ds[j]? = some d → ∃ u, vs[j]? = some u ∧ OR W' ow' base 8 30 1 u d.args.length (u64c d.args)) (h4 : vs.length = ds.length) :
    FrAt W' ow' base fa fo k { t with defs := ds } { fg with dv := v, ds := vs } :=
  ⟨by rw [frC_s4 v ds vs] at h1; exact h1, h.stk.kr kr (fun hx => by have := hex _ hx; omega), h2, h3, h4⟩
/-- the last frame's deferred calls: what an append needs, and leaves -/
theorem RunX.dfrPush {u : Value} {m : Nat} {kk : Nat} {args : List Int} {AA : Value} {p : Nat} (h : RunX w0 rb tg fa fo n c rs st ((fb, b) :: gl) pbs W) (hf : st.frames = t :: bl) (hm : m = t.defs.length) (hb : Below W.heap.size W W') (hd : st.doing ≠ 3) (hu : W'.ownsRow W.heap.size 30 1 u args.length (u64c args)) :
    ∃ dv, W'.cell? ⟨fb, 4, none⟩ = some dv ∧ W.cell? ⟨fb, 4, none⟩ = some dv ∧ fb < W'.heap.size ∧ ∃ xs, W'.ownsRow w0.heap.size 118 2 dv m xs ∧ w0.heap.size ≤ W'.heap.size ∧
      ∀ W1 w8 A8 c8, Below W'.heap.size W' W1 → w8.ownsRow w0.heap.size 118 2 (.slice A8 (m + 1) c8) (m + 1) (xs ++ [.int .i64 kk, u]) → W1.grownBy w8 dv.ownBlock → ((Value.slice A8 (m + 1) c8).ownBlock = dv.ownBlock ∨ (Value.slice A8 (m + 1) c8).ownBlock = some W1.heap.size) →
        w8.cell? ⟨fb, 4, none⟩ = some dv ∧ w8.frozen? ⟨fb, 4, none⟩ = false ∧ fb < w8.heap.size ∧ RunX w0 rb tg fa fo n c rs (st.top { t with defs := ⟨kk, args⟩ :: t.defs } bl) ((fb, b) :: gl) pbs (w8.setCell ⟨fb, 4, none⟩ (.slice A8 (m + 1) c8)) := by
  subst hm
  obtain ⟨g, ow, fg, gs, hR, hg, rfl, rfl, hgl, hpb, hF⟩ := h.open_ hf
  have hR1 := hR.new hb 8
  have hF1 : FrAt W' (up ow W.heap.size 8) w0.heap.size fa fo bl.length t fg := by
    have hfr := hR1.frames
    rw [hf, hg] at hfr
    exact hfr.1
  have hU : OR W' (up ow W.heap.size 8) w0.heap.size 8 30 1 u args.length (u64c args) := ⟨own_more hu hR.below.size, fun q hq => up_new (own_lt' hu hq).1⟩
  refine ⟨fg.dv, by rw [hF1.blk.blk.cell]; exact frC_4, by rw [hF.blk.blk.cell]; exact frC_4, hF1.blk.blk.lt, _, hF1.dfr.own, hR1.below.size, fun W1 w8 A8 c8 hb1 hown hgr hor => ?_⟩
  obtain ⟨hb8, hB8, hO8, hkr⟩ := app_set hF1.blk hF1.dfr (by omega) hb1 hown hgr hor 4
  refine ⟨by rw [hb8.cell]; exact frC_4, hb8.frozen 4, hb8.lt, ?_⟩
  refine RunX.close_ (fg := { fg with dv := .slice A8 (t.defs.length + 1) c8, ds := u :: fg.ds }) (hR1.top_ hf hg hkr (fun x hx => by rcases hx with h | h <;> omega) (hF1.dfr_ hkr (fun x hx => by rcases hx with h | h <;> omega) hB8 hO8 (fun j d hj => ?_) (by simp [hF1.lds])) rfl rfl) rfl rfl hgl hpb
  cases j with
  | zero =>
    have hdd : d = ⟨kk, args⟩ := by simpa using hj.symm
    subst hdd
    exact ⟨u, rfl, hU.kr hkr (ne2 (by omega) (by omega))⟩
  | succ j =>
    obtain ⟨v, e1, e2⟩ := hF1.args j d (by simpa using hj)
    exact ⟨v, by simpa using e1, e2.kr hkr (ne2 (by omega) (by omega))⟩

set_option maxRecDepth 100000 in
set_option maxHeartbeats 3200000 in
theorem delay_any (kk p : Nat) (r : Raw) (h : RunX w0 rb tg fa fo n c rs st ((fb, b) :: gl) pbs W) (hf : st.frames = t :: bl) (hr : rs[kk]? = some r) (hp : r.fn.params = (p : Int)) (hpl : p ≤ t.stack.length) (hs : t.stack.length ≤ 1048576) (hd : st.doing ≠ 3) (hds : t.defs.length ≤ 1048576) (hw : st.waiting ≤ 1048576) (hx : st.defers ≤ 1048577) :
    Calls Try.prog 43 #[.pointer (some ⟨rb, 0, none⟩), .pointer (some ⟨fb, 0, none⟩), .int .i64 kk] W fun e w' => e = .returned (.tuple #[]) ∧ RunX w0 rb tg fa fo n c rs { st.top { t.cut p with defs := ⟨kk, argsOf (fns rs) kk t.stack⟩ :: t.defs } bl with waiting := st.waiting + 1, defers := max st.defers (st.waiting + 1) } ((fb, b) :: gl) pbs w' := by
  have HA : Hid (∀ W', Below W.heap.size W W' → Calls Try.prog 41 #[.pointer (some ⟨rb, 0, none⟩), .pointer (some ⟨fb, 0, none⟩), .int .i64 kk] W' (ArgsP w0 rb tg fa fo n c rs (st.top (t.cut p) bl) ((fb, b) :: gl) pbs p (argsOf (fns rs) kk t.stack) fb W')) := Lib.hid fun W' hb => args_any kk p r (h.on hb) hf hr hp hpl hs
  obtain ⟨args, hargs⟩ : ∃ a, a = argsOf (fns rs) kk t.stack := ⟨_, rfl⟩
  have hal : args.length = p := by
    rw [hargs, argsOf_drop (by rw [fnOf_at hr, hp]; simp) hpl, List.length_drop, List.length_reverse]; omega
  rw [← hargs] at HA ⊢
  have HAL := Lib.hid hal
  have HD := Lib.hid hd
  obtain ⟨m, hm⟩ : ∃ m, m = t.defs.length := ⟨_, rfl⟩
  have HM := Lib.hid hm
  rw [← hm] at hds
  obtain ⟨hfb, hrb, _⟩ := h.top hf
  obtain ⟨dv0, y1, y2, _⟩ := h.dfrPush (W' := W) (u := .slice none 0 0) (kk := 0) (args := []) (AA := .bool true) (p := 0) hf rfl (Below.refl _ _) hd (own_none _ _ _ _)
  obtain ⟨wt, hwt⟩ : ∃ m, m = st.waiting := ⟨_, rfl⟩
  obtain ⟨mx, hmx⟩ : ∃ m, m = st.defers := ⟨_, rfl⟩
  rw [← hwt] at hw
  rw [← hmx] at hx
  have HWT := Lib.hid hwt
  have HMX := Lib.hid hmx
  have hp8 : p * 8 ≤ 140737488355328 := by omega
  have c4 := y1
  clear h hf hr hp hpl hs hd hm hargs hal hwt hmx y2
  go_enter Try.func43, Try.ntmps43
  go_upto_region 0 with fail
  go_cut [] (fun wx => Hid (RunX w0 rb tg fa fo n c rs (st.top { t.cut p with defs := ⟨kk, args⟩ :: t.defs } bl) ((fb, b) :: gl) pbs wx))
  case first =>
    go_region_law (first
      | (go_simp; go_at_call 41; refine (HA.out _ (by first | exact (Below.refl _ _).drew | exact Below.refl _ _)).mono ?_; rintro e w2 ⟨AA, cA, rfl, hpc, hn0, h2, h4⟩; have H2 := Lib.hid h2.runX; have HRD := Lib.hid h2; have d4 : w2.cell? ⟨fb, 4, none⟩ = some dv0 := h4.trans c4; have hfb2 := (h2.runX.top rfl).1; clear h2 h4)
      | (go_simp; go_at_call 23; refine (clone_u64 _ AA p cA args _ (by obtain ⟨_, _, _, _, _, hh, _⟩ := HRD.out; exact hh) (Nat.le_refl _) hp8).mono ?_; rintro e w3 ⟨v3, rfl, ho3, hb3⟩; obtain ⟨A3, c3, rfl⟩ := own_slice ho3; obtain ⟨dv, y3, y2, hfb3, xs, hox, hbz3, hpush⟩ := H2.out.dfrPush (kk := kk) (args := args) (AA := .bool true) (p := 0) (m := m) rfl HM.out hb3 HD.out (by rw [HAL.out]; exact ho3); have hdv : dv = dv0 := (by rw [d4] at y2; injection y2 with y2; exact y2.symm); subst hdv; have HOX := Lib.hid (hox.alloc (.cells #[.int .i64 kk, .slice A3 p c3] 118)); have HPUSH := Lib.hid hpush; have HRV := Lib.hid (reads_dfr w3 kk (.slice A3 p c3)); clear ho3 hb3 hpush hox y2)
      | (refine step_dfr rfl _ _ rfl w0.heap.size dv m xs rfl HOX.out (w3.heap.size + 1) (some ⟨w3.heap.size, 0, none⟩) 1 1 [.int .i64 kk, .slice A3 p c3] rfl HRV.out (fun u hu => by simp at hu; rcases hu with rfl | rfl <;> rfl) (by omega) (by simp; omega) ?_; intro v8 w8 hown hgr hor; obtain ⟨A8, c8, rfl⟩ := own_slice hown; obtain ⟨z4, g4, hz8, hX⟩ := HPUSH.out _ _ _ _ ((Below.refl _ _).alloc (Nat.le_refl _) _) hown hgr hor; have HX := Lib.hid hX; clear hown hgr hor hX))
    all_goals
      go_wp2
      go_meet
    all_goals
      exact HX
  case rest =>
    obtain ⟨hrb2, _, _, d5, _, _, d12, ff⟩ := hcut.out.cells
    have f5 := ff 5
    have f12 := ff 12
    have d5' : wc.cell? ⟨rb, 5, none⟩ = some (.int .i64 wt) := by rw [HWT.out]; exact d5
    have d12' : wc.cell? ⟨rb, 12, none⟩ = some (.int .i64 mx) := by rw [HMX.out]; exact d12
    have HC := Lib.hid hcut.out
    have HFIN : Hid (∀ y5 y : Int, y5 = ((wt + 1 : Nat) : Int) → y = ((max mx (wt + 1) : Nat) : Int) → RunX w0 rb tg fa fo n c rs { st.top { t.cut p with defs := ⟨kk, args⟩ :: t.defs } bl with waiting := st.waiting + 1, defers := max st.defers (st.waiting + 1) } ((fb, b) :: gl) pbs ((wc.setCell ⟨rb, 5, none⟩ (.int .i64 y5)).setCell ⟨rb, 12, none⟩ (.int .i64 y)).drew) := Lib.hid fun y5 y h5 hy => by
      subst h5 hy
      rw [HWT.out, HMX.out]
      have h1 := (HC.out.setWaiting (st.waiting + 1) HD.out).setDefers (max st.defers (st.waiting + 1)) HD.out
      exact h1.on (Below.refl _ _).drew
    have hw0 : wt ≤ 1048576 := hw
    clear d5 d12 ff hcut
    go_wp2
    go_region
    go_wp2
    all_goals
      go_end0
      refine ⟨rfl, HFIN.out _ _ ?_ ?_⟩ <;> omega
end
end Go.Proofs.Ytdoabcmfblmklaa

/-
  Package sem: execute, joined to the plain machine.
-/
namespace Go.Proofs.Ytdoabcmfblmklaa
set_option linter.unusedVariables false
set_option linter.unusedSimpArgs false
open Go.ChangeShapes Go.WideShapes Go.ChangeAt Go.RowKit

/-- what an instruction asks of sizes -/
structure ExB (rs : List Raw) (st : Mc) (t : Fr) (bl : List Fr) (i : Ins) : Prop where
  doing : st.doing = 0
  frames : bl.length + 1 ≤ 1048576
  depth : st.depth ≤ 1048576
  mem : st.mem.length ≤ 1000000000
  pans : st.panics.length ≤ 1048575
  evs : st.evs.length ≤ 1048576
  waiting : st.waiting ≤ 1048576
  defers : st.defers ≤ 1048577
  maxp : st.maxp ≤ 1048577
  why : t.why ≤ 3
  fn : ∃ r, rs[t.f]? = some r
  stk : t.stack.length + 2 ≤ 1048576
  isw : ∀ v ∈ t.stack, isW v
  defs : t.defs.length ≤ 1048576
  locs : ∀ r ∈ rs, r.fn.locals.length ≤ 255
  pars : ∀ r ∈ rs, 0 ≤ r.fn.params ∧ r.fn.params.toNat ≤ r.fn.locals.length
  arg : i.op ≠ 21 → i.op ≠ 22 → 0 ≤ i.arg
  adr : i.op = 4 → t.base + i.arg.toNat ≤ 1000000000
section
variable {w0 W W' : World} {rb tg fa fo n c : Nat} {rs : List Raw} {st st2 : Mc} {t t' : Fr} {bl : List Fr} {gl : List (Nat × Nat)} {pbs : List Nat} {fb b : Nat} {a m : Int}
theorem SLink.bys (h : SLink (st.top t bl) gl pbs) (hd : st.doing = 0) : pbs = bysOf (t :: bl) gl := h.one (.inl hd)
theorem bysOf_why (hw : t'.why = t.why) : bysOf (t' :: bl) gl = bysOf (t :: bl) gl := by
  cases gl with
  | nil => rfl
  | cons x gl => obtain ⟨x1, x2⟩ := x; simp only [bysOf, hw]
theorem lk_same (h : pbs = bysOf (t :: bl) gl) (hf : st2.frames = t' :: bl) (hw : t'.why = t.why) (hd : st2.doing = 0 ∨ st2.doing = 1) : SLink st2 gl pbs :=
  ⟨fun h2 => (by rcases hd with h0 | h0 <;> rw [h0] at h2 <;> cases h2), fun _ => (by rw [hf, bysOf_why hw]; exact h)⟩
theorem lk_raise (x : Nat) (h : pbs = bysOf (t :: bl) gl) (hf : st2.frames = t' :: bl) (hw : t'.why = t.why) (hd : st2.doing = 2) : SLink st2 gl (x :: pbs) :=
  ⟨fun _ => ⟨x, by rw [hf, bysOf_why hw, h]⟩, fun h0 => (by rcases h0 with h0 | h0 <;> rw [hd] at h0 <;> cases h0)⟩
theorem lk_over (hd : st2.doing = 3) : SLink st2 gl pbs :=
  ⟨fun h2 => (by rw [hd] at h2; cases h2), fun h0 => (by rcases h0 with h0 | h0 <;> rw [hd] at h0 <;> cases h0)⟩
theorem lk_begin {k : Nat} {args : List Int} {fs : List Fn} {f : Nat} (h : pbs = bysOf (t :: bl) ((fb, b) :: gl)) (hw : t'.why = t.why) : SLink ((st.top t' bl).begin fs 1 k args) ((f, 0) :: (fb, b) :: gl) pbs := by
  refine ⟨fun h2 => (by cases h2), fun _ => ?_⟩
  rw [h, ← bysOf_why (t' := t') hw]
  simp [bysOf, Mc.begin, Mc.top]
def JoinP (w0 : World) (rb tg fa fo n c : Nat) (rs : List Raw) (st2 : Mc) (e : Ending) (w' : World) : Prop := e = .returned (.tuple #[]) ∧ ∃ gl' pbs', RunX w0 rb tg fa fo n c rs st2 gl' pbs' w' ∧ SLink st2 gl' pbs'
theorem RunX.rb_ne (h : RunX w0 rb tg fa fo n c rs st ((fb, b) :: gl) pbs W) (hf : st.frames = t :: bl) : rb ≠ fb := by
  obtain ⟨g, ow, fg, gs, hR, hg, rfl, rfl, hgl, hpb, hF⟩ := h.open_ hf
  intro e
  have h1 := hR.run.role
  have h2 := hF.blk.role
  rw [e, h2] at h1
  omega
set_option maxRecDepth 100000 in
theorem join_1 (h : RunX w0 rb tg fa fo n c rs (st.top t bl) ((fb, b) :: gl) pbs W) (hlk : SLink (st.top t bl) ((fb, b) :: gl) pbs) (hx : exec (fns rs) st t bl ⟨1, a, m⟩ = some st2) (hb : ExB rs st t bl ⟨1, a, m⟩) :
    Calls Try.prog 25 #[.pointer (some ⟨rb, 0, none⟩), .pointer (some ⟨fb, 0, none⟩), .agg #[.int .u8 1, .int .i64 a, .int .u64 m]] W (JoinP w0 rb tg fa fo n c rs st2) := by
  simp [exec] at hx
  subst hx
  exact (exe_const a m (Q := RunX w0 rb tg fa fo n c rs (st.top (t.push m) bl) ((fb, b) :: gl) pbs) fun W' hW => push_any (st := st.top t bl) m (h.on hW) rfl (by have := hb.stk; omega)).mono fun e w' ⟨he, hr⟩ => ⟨he, _, _, hr, lk_same (hlk.bys hb.doing) rfl rfl (.inl hb.doing)⟩
set_option maxRecDepth 100000 in
theorem join_2 (h : RunX w0 rb tg fa fo n c rs (st.top t bl) ((fb, b) :: gl) pbs W) (hlk : SLink (st.top t bl) ((fb, b) :: gl) pbs) (hx : exec (fns rs) st t bl ⟨2, a, m⟩ = some st2) (hb : ExB rs st t bl ⟨2, a, m⟩) :
    Calls Try.prog 25 #[.pointer (some ⟨rb, 0, none⟩), .pointer (some ⟨fb, 0, none⟩), .agg #[.int .u8 2, .int .i64 a, .int .u64 m]] W (JoinP w0 rb tg fa fo n c rs st2) := by
  obtain ⟨j, rfl⟩ : ∃ j : Nat, a = (j : Int) := ⟨a.toNat, by have := hb.arg (by show (2 : Int) ≠ 21; decide) (by show (2 : Int) ≠ 22; decide); show a = _; have h0 : 0 ≤ a := this; omega⟩
  simp [exec] at hx
  obtain ⟨v, hv, rfl⟩ := hx
  obtain ⟨q, cq, c3, x0, _, hq, hrz, hxm, _⟩ := h.memAt (j := t.base + j) (v := v) hv
  obtain ⟨hz, _, _, _, c2, _, _, _⟩ := h.top rfl
  exact (exe_get m v q st.mem.length cq t.base j (t.base + j) hz hrz hq hb.mem rfl hxm c2 c3 x0 (Q := RunX w0 rb tg fa fo n c rs (st.top (t.push v) bl) ((fb, b) :: gl) pbs) fun W' hW => push_any (st := st.top t bl) v (h.on hW) rfl (by have := hb.stk; omega)).mono fun e w' ⟨he, hr⟩ => ⟨he, _, _, hr, lk_same (hlk.bys hb.doing) rfl rfl (.inl hb.doing)⟩
set_option maxRecDepth 100000 in
theorem join_3 (h : RunX w0 rb tg fa fo n c rs (st.top t bl) ((fb, b) :: gl) pbs W) (hlk : SLink (st.top t bl) ((fb, b) :: gl) pbs) (hx : exec (fns rs) st t bl ⟨3, a, m⟩ = some st2) (hb : ExB rs st t bl ⟨3, a, m⟩) :
    Calls Try.prog 25 #[.pointer (some ⟨rb, 0, none⟩), .pointer (some ⟨fb, 0, none⟩), .agg #[.int .u8 3, .int .i64 a, .int .u64 m]] W (JoinP w0 rb tg fa fo n c rs st2) := by
  obtain ⟨j, rfl⟩ : ∃ j : Nat, a = (j : Int) := ⟨a.toNat, by have := hb.arg (by show (3 : Int) ≠ 21; decide) (by show (3 : Int) ≠ 22; decide); show a = _; have h0 : 0 ≤ a := this; omega⟩
  rcases hs : t.stack with _ | ⟨v, s⟩
  · simp [exec, hs] at hx
  have hl := hb.stk
  rw [hs] at hl
  simp only [List.length_cons] at hl
  simp [exec, hs] at hx
  obtain ⟨hxm, rfl⟩ := hx
  obtain ⟨v0, hv0⟩ : ∃ v0, st.mem[t.base + j]? = some v0 := ⟨_, List.getElem?_eq_getElem hxm⟩
  obtain ⟨q, cq, c3, x0, _, hq, hrz, _, _⟩ := h.memAt (j := t.base + j) (v := v0) hv0
  obtain ⟨hz, _, _, _, c2, _, _, _⟩ := h.top rfl
  refine (exe_set m v q st.mem.length cq t.base j (t.base + j) (.int .u64 v0) hz hrz hq hb.mem rfl hxm c2 c3 (Q := RunX w0 rb tg fa fo n c rs { st.top { t with stack := s } bl with mem := st.mem.set (t.base + j) v } ((fb, b) :: gl) pbs) fun W' hW => ?_).mono fun e w' ⟨he, hr⟩ => ⟨he, _, _, hr, lk_same (hlk.bys hb.doing) rfl rfl (.inl hb.doing)⟩
  refine (pop_far (st := st.top t bl) v s (h.on hW) rfl hs (by omega)).mono ?_
  rintro e w' ⟨rfl, hr, hsz, hfar⟩
  obtain ⟨q', cq', d3, y0, yf, _, _, _, hset⟩ := hr.memAt (j := t.base + j) (v := v0) hv0
  obtain ⟨_, _, _, _, d2, _, _, _⟩ := hr.top rfl
  have hne := h.rb_ne rfl
  have e3 := (hfar rb 3 hne).trans ((hW.cell (p := ⟨rb, 3, none⟩) hrz).trans c3)
  have d3' := d3
  rw [e3] at d3'
  obtain rfl : q = q' := by injection d3' with d3'; injection d3' with d3'; injection d3' with d3'; injection d3'
  obtain ⟨q2, cq2, k3, _, _, _, _, _, hset2⟩ := (hr.on (Below.refl _ _).drew).memAt (j := t.base + j) (v := v0) hv0
  have k3' : w'.cell? ⟨rb, 3, none⟩ = some (.slice (some ⟨q2, 0, none⟩) _ cq2) := k3
  rw [e3] at k3'
  obtain rfl : q = q2 := by injection k3' with k3'; injection k3' with k3'; injection k3' with k3'; injection k3'
  exact ⟨rfl, hsz, hfar, d2, e3, y0, yf, hset v (by show st.doing ≠ 3; rw [hb.doing]; decide), hset2 v (by show st.doing ≠ 3; rw [hb.doing]; decide)⟩
set_option maxRecDepth 100000 in
theorem join_4 (h : RunX w0 rb tg fa fo n c rs (st.top t bl) ((fb, b) :: gl) pbs W) (hlk : SLink (st.top t bl) ((fb, b) :: gl) pbs) (hx : exec (fns rs) st t bl ⟨4, a, m⟩ = some st2) (hb : ExB rs st t bl ⟨4, a, m⟩) :
    Calls Try.prog 25 #[.pointer (some ⟨rb, 0, none⟩), .pointer (some ⟨fb, 0, none⟩), .agg #[.int .u8 4, .int .i64 a, .int .u64 m]] W (JoinP w0 rb tg fa fo n c rs st2) := by
  obtain ⟨j, rfl⟩ : ∃ j : Nat, a = (j : Int) := ⟨a.toNat, by have := hb.arg (by show (4 : Int) ≠ 21; decide) (by show (4 : Int) ≠ 22; decide); show a = _; have h0 : 0 ≤ a := this; omega⟩
  simp [exec] at hx
  subst hx
  obtain ⟨hz, _, _, _, c2, _, _, _⟩ := h.top rfl
  have e1 : ((t.base : Int) + (j : Int) + 1) = ((t.base + j : Nat) : Int) + 1 := by omega
  rw [e1]
  have hm : t.base + j ≤ 1000000000 := by have := hb.adr rfl; simpa using this
  exact (exe_addr m t.base j (t.base + j) hz hm rfl c2 (Q := RunX w0 rb tg fa fo n c rs (st.top (t.push (((t.base + j : Nat) : Int) + 1)) bl) ((fb, b) :: gl) pbs) fun W' hW => push_any (st := st.top t bl) _ (h.on hW) rfl (by have := hb.stk; omega)).mono fun e w' ⟨he, hr⟩ => ⟨he, _, _, hr, lk_same (hlk.bys hb.doing) rfl rfl (.inl hb.doing)⟩
set_option maxRecDepth 100000 in
theorem join_5 (h : RunX w0 rb tg fa fo n c rs (st.top t bl) ((fb, b) :: gl) pbs W) (hlk : SLink (st.top t bl) ((fb, b) :: gl) pbs) (hx : exec (fns rs) st t bl ⟨5, a, m⟩ = some st2) (hb : ExB rs st t bl ⟨5, a, m⟩) :
    Calls Try.prog 25 #[.pointer (some ⟨rb, 0, none⟩), .pointer (some ⟨fb, 0, none⟩), .agg #[.int .u8 5, .int .i64 a, .int .u64 m]] W (JoinP w0 rb tg fa fo n c rs st2) := by
  rcases hs : t.stack with _ | ⟨v, s⟩
  · simp [exec, hs] at hx
  have hl := hb.stk
  rw [hs] at hl
  simp only [List.length_cons] at hl
  have hv0 : 0 ≤ v := (hb.isw v (by rw [hs]; simp)).1
  by_cases h0 : v = 0
  · subst h0
    simp [exec, hs] at hx
    subst hx
    exact (exe_load a m (Q := fun w' => ∃ x, RunX w0 rb tg fa fo n c rs ((st.top { t with stack := s } bl).raise byNull) ((fb, b) :: gl) (x :: pbs) w') fun W' hW => load_null (st := st.top t bl) s (h.on hW) rfl hs (by show st.doing ≠ 3; rw [hb.doing]; decide) (by omega) (by show st.panics.length ≤ _; have := hb.pans; omega) hb.maxp).mono fun e w' ⟨he, x, hr⟩ => ⟨he, _, _, hr, lk_raise x (hlk.bys hb.doing) rfl rfl rfl⟩
  · obtain ⟨j, rfl⟩ : ∃ j : Nat, v = (j : Int) + 1 := ⟨(v - 1).toNat, by omega⟩
    simp [exec, hs, h0] at hx
    obtain ⟨v, hv, rfl⟩ := hx
    exact (exe_load a m (Q := RunX w0 rb tg fa fo n c rs (st.top { t with stack := v :: s } bl) ((fb, b) :: gl) pbs) fun W' hW => load_ok (st := st.top t bl) s j v (h.on hW) rfl hs hv (by omega) hb.mem).mono fun e w' ⟨he, hr⟩ => ⟨he, _, _, hr, lk_same (hlk.bys hb.doing) rfl rfl (.inl hb.doing)⟩
set_option maxRecDepth 100000 in
theorem join_6 (h : RunX w0 rb tg fa fo n c rs (st.top t bl) ((fb, b) :: gl) pbs W) (hlk : SLink (st.top t bl) ((fb, b) :: gl) pbs) (hx : exec (fns rs) st t bl ⟨6, a, m⟩ = some st2) (hb : ExB rs st t bl ⟨6, a, m⟩) :
    Calls Try.prog 25 #[.pointer (some ⟨rb, 0, none⟩), .pointer (some ⟨fb, 0, none⟩), .agg #[.int .u8 6, .int .i64 a, .int .u64 m]] W (JoinP w0 rb tg fa fo n c rs st2) := by
  rcases hs : t.stack with _ | ⟨v, _ | ⟨p, s⟩⟩
  · simp [exec, hs] at hx
  · simp [exec, hs] at hx
  have hl := hb.stk
  rw [hs] at hl
  simp only [List.length_cons] at hl
  have hv0 : 0 ≤ p := (hb.isw p (by rw [hs]; simp)).1
  by_cases h0 : p = 0
  · subst h0
    simp [exec, hs] at hx
    subst hx
    exact (exe_store a m (Q := fun w' => ∃ x, RunX w0 rb tg fa fo n c rs ((st.top { t with stack := s } bl).raise byNull) ((fb, b) :: gl) (x :: pbs) w') fun W' hW => store_null (st := st.top t bl) v s (h.on hW) rfl hs (by show st.doing ≠ 3; rw [hb.doing]; decide) (by omega) (by show st.panics.length ≤ _; have := hb.pans; omega) hb.maxp).mono fun e w' ⟨he, x, hr⟩ => ⟨he, _, _, hr, lk_raise x (hlk.bys hb.doing) rfl rfl rfl⟩
  · obtain ⟨j, rfl⟩ : ∃ j : Nat, p = (j : Int) + 1 := ⟨(p - 1).toNat, by omega⟩
    simp [exec, hs, h0] at hx
    obtain ⟨hv, rfl⟩ := hx
    exact (exe_store a m (Q := RunX w0 rb tg fa fo n c rs { st.top { t with stack := s } bl with mem := st.mem.set j v } ((fb, b) :: gl) pbs) fun W' hW => store_ok (st := st.top t bl) v s j (h.on hW) rfl hs hv (by show st.doing ≠ 3; rw [hb.doing]; decide) (by omega) hb.mem).mono fun e w' ⟨he, hr⟩ => ⟨he, _, _, hr, lk_same (hlk.bys hb.doing) rfl rfl (.inl hb.doing)⟩
set_option maxRecDepth 100000 in
theorem join_21 (h : RunX w0 rb tg fa fo n c rs (st.top t bl) ((fb, b) :: gl) pbs W) (hlk : SLink (st.top t bl) ((fb, b) :: gl) pbs) (hx : exec (fns rs) st t bl ⟨21, a, m⟩ = some st2) (hb : ExB rs st t bl ⟨21, a, m⟩) :
    Calls Try.prog 25 #[.pointer (some ⟨rb, 0, none⟩), .pointer (some ⟨fb, 0, none⟩), .agg #[.int .u8 21, .int .i64 a, .int .u64 m]] W (JoinP w0 rb tg fa fo n c rs st2) := by
  simp [exec] at hx
  subst hx
  obtain ⟨hz, _, _, c1, _, _, f1, _⟩ := h.top rfl
  exact (exe_jump a m hz c1 f1 (Q := RunX w0 rb tg fa fo n c rs (st.top (t.goto a) bl) ((fb, b) :: gl) pbs) fun o => (h.setNext rfl a).on ((Below.refl _ _).alloc (Nat.le_refl _) o)).mono fun e w' ⟨he, hr⟩ => ⟨he, _, _, hr, lk_same (hlk.bys hb.doing) rfl rfl (.inl hb.doing)⟩
set_option maxRecDepth 100000 in
theorem join_22 (h : RunX w0 rb tg fa fo n c rs (st.top t bl) ((fb, b) :: gl) pbs W) (hlk : SLink (st.top t bl) ((fb, b) :: gl) pbs) (hx : exec (fns rs) st t bl ⟨22, a, m⟩ = some st2) (hb : ExB rs st t bl ⟨22, a, m⟩) :
    Calls Try.prog 25 #[.pointer (some ⟨rb, 0, none⟩), .pointer (some ⟨fb, 0, none⟩), .agg #[.int .u8 22, .int .i64 a, .int .u64 m]] W (JoinP w0 rb tg fa fo n c rs st2) := by
  rcases hs : t.stack with _ | ⟨v, s⟩
  · simp [exec, hs] at hx
  have hl := hb.stk
  rw [hs] at hl
  simp only [List.length_cons] at hl
  simp [exec, hs] at hx
  subst hx
  obtain ⟨hz, _, _, _, _, _, _, _⟩ := h.top rfl
  by_cases h0 : v = 0
  · rw [if_pos h0]
    refine (exe_zero_yes a m v (Q1 := RunX w0 rb tg fa fo n c rs (st.top { t with stack := s } bl) ((fb, b) :: gl) pbs) (Q := RunX w0 rb tg fa fo n c rs (st.top { t with stack := s, next := a } bl) ((fb, b) :: gl) pbs) (fun W' hW => pop_far (st := st.top t bl) v s (h.on hW) rfl hs (by omega)) h0 hz fun W' hW => ?_).mono fun e w' ⟨he, hr⟩ => ⟨he, _, _, hr, lk_same (hlk.bys hb.doing) rfl rfl (.inl hb.doing)⟩
    obtain ⟨z1, _, _, d1, _, _, f1, _⟩ := hW.top rfl
    exact ⟨z1, ⟨_, d1⟩, f1, hW.setNext rfl a⟩
  · rw [if_neg h0]
    exact (exe_zero_no a m v (Q := RunX w0 rb tg fa fo n c rs (st.top { t with stack := s } bl) ((fb, b) :: gl) pbs) (fun W' hW => pop_any (st := st.top t bl) v s (h.on hW) rfl hs (by omega)) h0).mono fun e w' ⟨he, hr⟩ => ⟨he, _, _, hr, lk_same (hlk.bys hb.doing) rfl rfl (.inl hb.doing)⟩
set_option maxRecDepth 100000 in
theorem join_23 (h : RunX w0 rb tg fa fo n c rs (st.top t bl) ((fb, b) :: gl) pbs W) (hlk : SLink (st.top t bl) ((fb, b) :: gl) pbs) (hx : exec (fns rs) st t bl ⟨23, a, m⟩ = some st2) (hb : ExB rs st t bl ⟨23, a, m⟩) :
    Calls Try.prog 25 #[.pointer (some ⟨rb, 0, none⟩), .pointer (some ⟨fb, 0, none⟩), .agg #[.int .u8 23, .int .i64 a, .int .u64 m]] W (JoinP w0 rb tg fa fo n c rs st2) := by
  obtain ⟨j, rfl⟩ : ∃ j : Nat, a = (j : Int) := ⟨a.toNat, by have := hb.arg (by show (23 : Int) ≠ 21; decide) (by show (23 : Int) ≠ 22; decide); show a = _; have h0 : 0 ≤ a := this; omega⟩
  simp [exec] at hx
  obtain ⟨⟨hpl, hkl⟩, rfl⟩ := hx
  obtain ⟨r, hr⟩ : ∃ r, rs[j]? = some r := ⟨_, List.getElem?_eq_getElem (by rw [← length_fns]; exact hkl)⟩
  have hrm := List.mem_of_getElem? hr
  have hfn := fnOf_at hr
  obtain ⟨p, hp⟩ : ∃ p : Nat, r.fn.params = (p : Int) := ⟨r.fn.params.toNat, by have := (hb.pars r hrm).1; omega⟩
  have hpn : p ≤ r.fn.locals.length := by have := (hb.pars r hrm).2; rw [hp] at this; simpa using this
  rw [hfn, hp] at hpl ⊢
  simp only [Int.toNat_natCast] at hpl ⊢
  have hpl : p ≤ t.stack.length := by omega
  obtain ⟨hz, _, _, _, _, _, _, _⟩ := h.top rfl
  have hargl : (argsOf (fns rs) j t.stack).length = p := by unfold argsOf; rw [hfn, hp]; simp; omega
  refine (exe_call m j p st.mem.length hz (QA := fun AA cA w' => p ≤ cA ∧ (AA = none → p = 0) ∧ RunA w0 rb tg fa fo n c rs (st.top (t.cut p) bl) ((fb, b) :: gl) pbs AA p (argsOf (fns rs) j t.stack) w')
    (QN := RunX w0 rb tg fa fo n c rs { st.top (t.cut p) bl with mem := st.mem ++ locals (fns rs) j (argsOf (fns rs) j t.stack) } ((fb, b) :: gl) pbs)
    (Q := fun w' => ∃ f, RunX w0 rb tg fa fo n c rs ((st.top (t.cut p) bl).begin (fns rs) 1 j (argsOf (fns rs) j t.stack)) ((f, 0) :: (fb, b) :: gl) pbs w')
    (fun W' hW => (args_far (st := st.top t bl) j p r (h.on hW) rfl hr hp hpl (by have := hb.stk; omega)).mono fun e w' ⟨AA, cA, h1, h2, h3, h4, h5, h6⟩ => ⟨AA, cA, h1, ⟨h2, h3, h4⟩, h5, h6⟩)
    (fun AA cA w' ⟨h2, h3, h4⟩ => newCall_any j 0 p cA AA _ r h4 (by show st.doing ≠ 3; rw [hb.doing]; decide) hr hargl hpn (hb.locs r hrm) hb.mem h2 h3)
    (fun w2 h2 => (begin_called j st.mem.length h2 (by show st.doing ≠ 3; rw [hb.doing]; decide) (by show bl.length + 1 ≤ _; have := hb.frames; omega) (by show st.depth ≤ _; have := hb.depth; omega)).mono fun e w' ⟨he, hr2⟩ => ⟨he, _, hr2⟩)).mono ?_
  rintro e w' ⟨rfl, f, hr2⟩
  exact ⟨rfl, _, _, hr2, lk_begin (hlk.bys hb.doing) rfl⟩
set_option maxRecDepth 100000 in
theorem join_24 (h : RunX w0 rb tg fa fo n c rs (st.top t bl) ((fb, b) :: gl) pbs W) (hlk : SLink (st.top t bl) ((fb, b) :: gl) pbs) (hx : exec (fns rs) st t bl ⟨24, a, m⟩ = some st2) (hb : ExB rs st t bl ⟨24, a, m⟩) :
    Calls Try.prog 25 #[.pointer (some ⟨rb, 0, none⟩), .pointer (some ⟨fb, 0, none⟩), .agg #[.int .u8 24, .int .i64 a, .int .u64 m]] W (JoinP w0 rb tg fa fo n c rs st2) := by
  obtain ⟨r, hr⟩ := hb.fn
  have hfn := fnOf_at hr
  by_cases hres : r.fn.result = true
  · rcases hs : t.stack with _ | ⟨v, s⟩
    · simp [exec, hfn, hres, hs] at hx
    have hl := hb.stk
    rw [hs] at hl
    simp only [List.length_cons] at hl
    simp [exec, hfn, hres, hs] at hx
    subst hx
    exact (exe_ret a m (Q := RunX w0 rb tg fa fo n c rs { st.top { t with stack := s, number := v } bl with doing := 1 } ((fb, b) :: gl) pbs) fun W' hW => ret_some (st := st.top t bl) v s r (h.on hW) rfl hr hres hs (by show st.doing ≠ 3; rw [hb.doing]; decide) (by omega)).mono fun e w' ⟨he, hr⟩ => ⟨he, _, _, hr, lk_same (hlk.bys hb.doing) rfl rfl (.inr rfl)⟩
  · have hres : r.fn.result = false := by simpa using hres
    simp [exec, hfn, hres] at hx
    subst hx
    exact (exe_ret a m (Q := RunX w0 rb tg fa fo n c rs { st.top t bl with doing := 1 } ((fb, b) :: gl) pbs) fun W' hW => ret_none (st := st.top t bl) r (h.on hW) rfl hr hres (by show st.doing ≠ 3; rw [hb.doing]; decide)).mono fun e w' ⟨he, hr⟩ => ⟨he, _, _, hr, lk_same (hlk.bys hb.doing) rfl rfl (.inr rfl)⟩
set_option maxRecDepth 100000 in
theorem join_25 (h : RunX w0 rb tg fa fo n c rs (st.top t bl) ((fb, b) :: gl) pbs W) (hlk : SLink (st.top t bl) ((fb, b) :: gl) pbs) (hx : exec (fns rs) st t bl ⟨25, a, m⟩ = some st2) (hb : ExB rs st t bl ⟨25, a, m⟩) :
    Calls Try.prog 25 #[.pointer (some ⟨rb, 0, none⟩), .pointer (some ⟨fb, 0, none⟩), .agg #[.int .u8 25, .int .i64 a, .int .u64 m]] W (JoinP w0 rb tg fa fo n c rs st2) := by
  obtain ⟨j, rfl⟩ : ∃ j : Nat, a = (j : Int) := ⟨a.toNat, by have := hb.arg (by show (25 : Int) ≠ 21; decide) (by show (25 : Int) ≠ 22; decide); show a = _; have h0 : 0 ≤ a := this; omega⟩
  simp [exec] at hx
  obtain ⟨⟨hpl, hkl⟩, rfl⟩ := hx
  obtain ⟨r, hr⟩ : ∃ r, rs[j]? = some r := ⟨_, List.getElem?_eq_getElem (by rw [← length_fns]; exact hkl)⟩
  have hrm := List.mem_of_getElem? hr
  have hfn := fnOf_at hr
  obtain ⟨p, hp⟩ : ∃ p : Nat, r.fn.params = (p : Int) := ⟨r.fn.params.toNat, by have := (hb.pars r hrm).1; omega⟩
  rw [hfn, hp] at hpl ⊢
  simp only [Int.toNat_natCast] at hpl ⊢
  have hpl : p ≤ t.stack.length := by omega
  exact (exe_defer j m (Q := RunX w0 rb tg fa fo n c rs { st.top { t.cut p with defs := ⟨j, argsOf (fns rs) j t.stack⟩ :: t.defs } bl with waiting := st.waiting + 1, defers := max st.defers (st.waiting + 1) } ((fb, b) :: gl) pbs) fun W' hW => delay_any (st := st.top t bl) j p r (h.on hW) rfl hr hp hpl (by have := hb.stk; omega) (by show st.doing ≠ 3; rw [hb.doing]; decide) hb.defs hb.waiting hb.defers).mono fun e w' ⟨he, hr⟩ => ⟨he, _, _, hr, lk_same (hlk.bys hb.doing) rfl rfl (.inl hb.doing)⟩
set_option maxRecDepth 100000 in
theorem join_26 (h : RunX w0 rb tg fa fo n c rs (st.top t bl) ((fb, b) :: gl) pbs W) (hlk : SLink (st.top t bl) ((fb, b) :: gl) pbs) (hx : exec (fns rs) st t bl ⟨26, a, m⟩ = some st2) (hb : ExB rs st t bl ⟨26, a, m⟩) :
    Calls Try.prog 25 #[.pointer (some ⟨rb, 0, none⟩), .pointer (some ⟨fb, 0, none⟩), .agg #[.int .u8 26, .int .i64 a, .int .u64 m]] W (JoinP w0 rb tg fa fo n c rs st2) := by
  rcases hs : t.stack with _ | ⟨v, s⟩
  · simp [exec, hs] at hx
  have hl := hb.stk
  rw [hs] at hl
  simp only [List.length_cons] at hl
  simp [exec, hs] at hx
  subst hx
  exact (exe_panic a m v (Q1 := RunX w0 rb tg fa fo n c rs (st.top { t with stack := s } bl) ((fb, b) :: gl) pbs) (Q := fun w' => ∃ x, RunX w0 rb tg fa fo n c rs ((st.top { t with stack := s } bl).raise v) ((fb, b) :: gl) (x :: pbs) w') (fun W' hW => pop_any (st := st.top t bl) v s (h.on hW) rfl hs (by omega)) fun W' hW => raise_any (st := st.top { t with stack := s } bl) v hW (by show st.doing ≠ 3; rw [hb.doing]; decide) (by show st.panics.length ≤ _; have := hb.pans; omega) hb.maxp).mono fun e w' ⟨he, x, hr⟩ => ⟨he, _, _, hr, lk_raise x (hlk.bys hb.doing) rfl rfl rfl⟩
set_option maxRecDepth 100000 in
theorem join_27 (h : RunX w0 rb tg fa fo n c rs (st.top t bl) ((fb, b) :: gl) pbs W) (hlk : SLink (st.top t bl) ((fb, b) :: gl) pbs) (hx : exec (fns rs) st t bl ⟨27, a, m⟩ = some st2) (hb : ExB rs st t bl ⟨27, a, m⟩) :
    Calls Try.prog 25 #[.pointer (some ⟨rb, 0, none⟩), .pointer (some ⟨fb, 0, none⟩), .agg #[.int .u8 27, .int .i64 a, .int .u64 m]] W (JoinP w0 rb tg fa fo n c rs st2) := by
  have hl := hb.stk
  by_cases hw : t.why = 3
  rotate_left
  · simp [exec, hw] at hx
    subst hx
    exact (exe_recover a m (Q := RunX w0 rb tg fa fo n c rs (st.top { t with stack := 0 :: 0 :: t.stack } bl) ((fb, b) :: gl) pbs) fun W' hW => catch_no (st := st.top t bl) (h.on hW) rfl hw hb.why (by have := hb.frames; omega) (by omega)).mono fun e w' ⟨he, hr⟩ => ⟨he, _, _, hr, lk_same (hlk.bys hb.doing) rfl rfl (.inl hb.doing)⟩
  rcases hp : st.panics with _ | ⟨⟨v, rc⟩, ps⟩
  · simp [exec, if_pos hw, hp] at hx
  have hpb : ∃ pbs', pbs = b :: pbs' := ⟨bysOf bl gl, by rw [hlk.bys hb.doing]; simp [bysOf, hw]⟩
  obtain ⟨pbs', rfl⟩ := hpb
  cases rc
  · simp [exec, if_pos hw, hp] at hx
    subst hx
    exact (exe_recover a m (Q := RunX w0 rb tg fa fo n c rs { st.top { t with stack := 1 :: v :: t.stack } bl with panics := (v, true) :: ps } ((fb, b) :: gl) (b :: pbs')) fun W' hW => catch_yes (st := st.top t bl) v ps (h.on hW) rfl hw hp (by show st.doing ≠ 3; rw [hb.doing]; decide) (by have := hb.frames; omega) (by omega)).mono fun e w' ⟨he, hr⟩ => ⟨he, _, _, hr, lk_same (hlk.bys hb.doing) rfl rfl (.inl hb.doing)⟩
  · simp [exec, if_pos hw, hp] at hx
    subst hx
    exact (exe_recover a m (Q := RunX w0 rb tg fa fo n c rs (st.top { t with stack := 0 :: 0 :: t.stack } bl) ((fb, b) :: gl) (b :: pbs')) fun W' hW => catch_done (st := st.top t bl) v ps (h.on hW) rfl hw hp (by show st.doing ≠ 3; rw [hb.doing]; decide) (by have := hb.frames; omega) (by omega)).mono fun e w' ⟨he, hr⟩ => ⟨he, _, _, hr, lk_same (hlk.bys hb.doing) rfl rfl (.inl hb.doing)⟩
set_option maxRecDepth 100000 in
theorem join_28 (h : RunX w0 rb tg fa fo n c rs (st.top t bl) ((fb, b) :: gl) pbs W) (hlk : SLink (st.top t bl) ((fb, b) :: gl) pbs) (hx : exec (fns rs) st t bl ⟨28, a, m⟩ = some st2) (hb : ExB rs st t bl ⟨28, a, m⟩) :
    Calls Try.prog 25 #[.pointer (some ⟨rb, 0, none⟩), .pointer (some ⟨fb, 0, none⟩), .agg #[.int .u8 28, .int .i64 a, .int .u64 m]] W (JoinP w0 rb tg fa fo n c rs st2) := by
  simp [exec, -List.headD_eq_head?_getD] at hx
  subst hx
  obtain ⟨hrz, _, c1, _, _, _, _, _⟩ := h.cells
  exact (exe_in a m (st.tape.headD 0) hrz c1 (Q1 := RunX w0 rb tg fa fo n c rs { st.top t bl with tape := st.tape.tail, evs := st.evs ++ [(2, st.tape.headD 0)] } ((fb, b) :: gl) pbs) (Q := RunX w0 rb tg fa fo n c rs { st.top (t.push (st.tape.headD 0)) bl with tape := st.tape.tail, evs := st.evs ++ [(2, st.tape.headD 0)] } ((fb, b) :: gl) pbs) (fun W' hW => in_any (st := st.top t bl) (h.on hW) (by show st.doing ≠ 3; rw [hb.doing]; decide) hb.evs) fun W' hW => push_any (st := { st.top t bl with tape := st.tape.tail, evs := st.evs ++ [(2, st.tape.headD 0)] }) _ hW rfl (by have := hb.stk; omega)).mono fun e w' ⟨he, hr⟩ => ⟨he, _, _, hr, lk_same (hlk.bys hb.doing) rfl rfl (.inl hb.doing)⟩
set_option maxRecDepth 100000 in
theorem join_29 (h : RunX w0 rb tg fa fo n c rs (st.top t bl) ((fb, b) :: gl) pbs W) (hlk : SLink (st.top t bl) ((fb, b) :: gl) pbs) (hx : exec (fns rs) st t bl ⟨29, a, m⟩ = some st2) (hb : ExB rs st t bl ⟨29, a, m⟩) :
    Calls Try.prog 25 #[.pointer (some ⟨rb, 0, none⟩), .pointer (some ⟨fb, 0, none⟩), .agg #[.int .u8 29, .int .i64 a, .int .u64 m]] W (JoinP w0 rb tg fa fo n c rs st2) := by
  rcases hs : t.stack with _ | ⟨v, s⟩
  · simp [exec, hs] at hx
  have hl := hb.stk
  rw [hs] at hl
  simp only [List.length_cons] at hl
  simp [exec, hs] at hx
  subst hx
  obtain ⟨hrz, _, c1, _, _, _, _, _⟩ := h.cells
  refine (exe_out a m v hrz c1 (Q1 := RunX w0 rb tg fa fo n c rs (st.top { t with stack := s } bl) ((fb, b) :: gl) pbs) (Q := RunX w0 rb tg fa fo n c rs { st.top { t with stack := s } bl with evs := st.evs ++ [(1, v)] } ((fb, b) :: gl) pbs) (fun W' hW => ?_) fun W' hW => out_any (st := st.top { t with stack := s } bl) v hW (by show st.doing ≠ 3; rw [hb.doing]; decide) hb.evs).mono fun e w' ⟨he, hr⟩ => ⟨he, _, _, hr, lk_same (hlk.bys hb.doing) rfl rfl (.inl hb.doing)⟩
  exact (pop_any (st := st.top t bl) v s (h.on hW) rfl hs (by omega)).mono fun e w' ⟨he, hr⟩ => ⟨he, hr, hr.cells.1, hr.cells.2.2.1⟩
set_option maxRecDepth 100000 in
theorem join_30 (h : RunX w0 rb tg fa fo n c rs (st.top t bl) ((fb, b) :: gl) pbs W) (hlk : SLink (st.top t bl) ((fb, b) :: gl) pbs) (hx : exec (fns rs) st t bl ⟨30, a, m⟩ = some st2) (hb : ExB rs st t bl ⟨30, a, m⟩) :
    Calls Try.prog 25 #[.pointer (some ⟨rb, 0, none⟩), .pointer (some ⟨fb, 0, none⟩), .agg #[.int .u8 30, .int .i64 a, .int .u64 m]] W (JoinP w0 rb tg fa fo n c rs st2) := by
  rcases hs : t.stack with _ | ⟨v, s⟩
  · simp [exec, hs] at hx
  have hl := hb.stk
  rw [hs] at hl
  simp only [List.length_cons] at hl
  simp [exec, hs] at hx
  subst hx
  exact (exe_exit a m v (Q1 := RunX w0 rb tg fa fo n c rs (st.top { t with stack := s } bl) ((fb, b) :: gl) pbs) (Q := RunX w0 rb tg fa fo n c rs ((st.top { t with stack := s } bl).over 1 v) ((fb, b) :: gl) pbs) (fun W' hW => pop_any (st := st.top t bl) v s (h.on hW) rfl hs (by omega)) fun W' hW => end_any (st := st.top { t with stack := s } bl) 1 v hW (by show st.doing ≠ 3; rw [hb.doing]; decide) (by show st.evs.length ≤ _; have := hb.evs; omega)).mono fun e w' ⟨he, hr⟩ => ⟨he, _, _, hr, lk_over rfl⟩
set_option maxRecDepth 100000 in
theorem join_31 (h : RunX w0 rb tg fa fo n c rs (st.top t bl) ((fb, b) :: gl) pbs W) (hlk : SLink (st.top t bl) ((fb, b) :: gl) pbs) (hx : exec (fns rs) st t bl ⟨31, a, m⟩ = some st2) (hb : ExB rs st t bl ⟨31, a, m⟩) :
    Calls Try.prog 25 #[.pointer (some ⟨rb, 0, none⟩), .pointer (some ⟨fb, 0, none⟩), .agg #[.int .u8 31, .int .i64 a, .int .u64 m]] W (JoinP w0 rb tg fa fo n c rs st2) := by
  rcases hs : t.stack with _ | ⟨v, s⟩
  · simp [exec, hs] at hx
  have hl := hb.stk
  rw [hs] at hl
  simp only [List.length_cons] at hl
  simp [exec, hs] at hx
  subst hx
  exact (exe_drop a m v (Q := RunX w0 rb tg fa fo n c rs (st.top { t with stack := s } bl) ((fb, b) :: gl) pbs) (fun W' hW => pop_any (st := st.top t bl) v s (h.on hW) rfl hs (by omega))).mono fun e w' ⟨he, hr⟩ => ⟨he, _, _, hr, lk_same (hlk.bys hb.doing) rfl rfl (.inl hb.doing)⟩
set_option maxRecDepth 100000 in
theorem join_32 (h : RunX w0 rb tg fa fo n c rs (st.top t bl) ((fb, b) :: gl) pbs W) (hlk : SLink (st.top t bl) ((fb, b) :: gl) pbs) (hx : exec (fns rs) st t bl ⟨32, a, m⟩ = some st2) (hb : ExB rs st t bl ⟨32, a, m⟩) :
    Calls Try.prog 25 #[.pointer (some ⟨rb, 0, none⟩), .pointer (some ⟨fb, 0, none⟩), .agg #[.int .u8 32, .int .i64 a, .int .u64 m]] W (JoinP w0 rb tg fa fo n c rs st2) := by
  rcases hs : t.stack with _ | ⟨v, s⟩
  · simp [exec, hs] at hx
  have hl := hb.stk
  rw [hs] at hl
  simp only [List.length_cons] at hl
  simp [exec, hs] at hx
  subst hx
  obtain ⟨g, ow, fg, gs, hR, hg, rfl, rfl, hgl, hpb, hF⟩ := h.open_ rfl
  have hlen : t.stack.length = s.length + 1 := by rw [hs]; rfl
  have hat : t.stack.reverse[s.length]? = some v := by rw [hs, List.reverse_cons, List.getElem?_append_right (by simp)]; simp
  obtain ⟨p, cp, hp, hp0, hpz, x0, hfz⟩ := hF.stk.at_ hat
  have hB := hF.blk
  have c3 : W.cell? ⟨fg.fb, 3, none⟩ = some (.slice (some ⟨p, 0, none⟩) (s.length + 1) cp) := by rw [hB.blk.cell, ← hlen, ← hp]; exact frC_3
  have hmc : s.length + 1 ≤ cp := by have h1 := hF.stk.own; rw [hp, hlen] at h1; exact own_cap h1
  have he : st.top (t.push v) bl = st.top { t with stack := v :: v :: s } bl := by unfold Fr.push; rw [hs]
  refine (exe_dup a m v p s.length cp hB.blk.lt hpz (by omega) hmc c3 x0 (Q := RunX w0 rb tg fa fo n c rs (st.top (t.push v) bl) ((fg.fb, fg.by_) :: gl) pbs) fun W' hW => push_any (st := st.top t bl) v (h.on hW) rfl (by have := hb.stk; omega)).mono fun e w' ⟨h1, hr⟩ => ?_
  have hr2 : RunX w0 rb tg fa fo n c rs (st.top { t with stack := v :: v :: s } bl) ((fg.fb, fg.by_) :: gl) pbs w' := he ▸ hr
  exact ⟨h1, _, _, hr2, lk_same (hlk.bys hb.doing) rfl rfl (.inl hb.doing)⟩
set_option maxRecDepth 100000 in
theorem join_op (op : Int) (h7 : 7 ≤ op) (h20 : op ≤ 20) (h : RunX w0 rb tg fa fo n c rs (st.top t bl) ((fb, b) :: gl) pbs W) (hlk : SLink (st.top t bl) ((fb, b) :: gl) pbs) (hx : exec (fns rs) st t bl ⟨op, a, m⟩ = some st2) (hb : ExB rs st t bl ⟨op, a, m⟩) :
    Calls Try.prog 25 #[.pointer (some ⟨rb, 0, none⟩), .pointer (some ⟨fb, 0, none⟩), .agg #[.int .u8 op, .int .i64 a, .int .u64 m]] W (JoinP w0 rb tg fa fo n c rs st2) := by
  rcases hs : t.stack with _ | ⟨y, _ | ⟨x, s⟩⟩
  · simp [exec, hs, show op ≠ 1 by omega, show op ≠ 2 by omega, show op ≠ 3 by omega, show op ≠ 4 by omega, show op ≠ 5 by omega, show op ≠ 6 by omega, show op ≠ 21 by omega, show op ≠ 22 by omega, show op ≠ 23 by omega, show op ≠ 24 by omega, show op ≠ 25 by omega, show op ≠ 26 by omega, show op ≠ 27 by omega, show op ≠ 28 by omega, show op ≠ 29 by omega, show op ≠ 30 by omega, show op ≠ 31 by omega, show op ≠ 32 by omega, h7, h20] at hx
  · simp [exec, hs, show op ≠ 1 by omega, show op ≠ 2 by omega, show op ≠ 3 by omega, show op ≠ 4 by omega, show op ≠ 5 by omega, show op ≠ 6 by omega, show op ≠ 21 by omega, show op ≠ 22 by omega, show op ≠ 23 by omega, show op ≠ 24 by omega, show op ≠ 25 by omega, show op ≠ 26 by omega, show op ≠ 27 by omega, show op ≠ 28 by omega, show op ≠ 29 by omega, show op ≠ 30 by omega, show op ≠ 31 by omega, show op ≠ 32 by omega, h7, h20] at hx
  have hl := hb.stk
  rw [hs] at hl
  simp only [List.length_cons] at hl
  have hy : isW y := hb.isw y (by rw [hs]; simp)
  by_cases he : doE op y = 0
  · simp [exec, hs, show op ≠ 1 by omega, show op ≠ 2 by omega, show op ≠ 3 by omega, show op ≠ 4 by omega, show op ≠ 5 by omega, show op ≠ 6 by omega, show op ≠ 21 by omega, show op ≠ 22 by omega, show op ≠ 23 by omega, show op ≠ 24 by omega, show op ≠ 25 by omega, show op ≠ 26 by omega, show op ≠ 27 by omega, show op ≠ 28 by omega, show op ≠ 29 by omega, show op ≠ 30 by omega, show op ≠ 31 by omega, show op ≠ 32 by omega, h7, h20, he] at hx
    subst hx
    exact (exe_reckon op a m h7 h20 (Q := RunX w0 rb tg fa fo n c rs (st.top { t with stack := doV op x y :: s } bl) ((fb, b) :: gl) pbs) fun W' hW => reckon_ok (st := st.top t bl) op x y s (h.on hW) rfl hs h7 h20 hy he (by omega)).mono fun e w' ⟨he, hr⟩ => ⟨he, _, _, hr, lk_same (hlk.bys hb.doing) rfl rfl (.inl hb.doing)⟩
  · simp [exec, hs, show op ≠ 1 by omega, show op ≠ 2 by omega, show op ≠ 3 by omega, show op ≠ 4 by omega, show op ≠ 5 by omega, show op ≠ 6 by omega, show op ≠ 21 by omega, show op ≠ 22 by omega, show op ≠ 23 by omega, show op ≠ 24 by omega, show op ≠ 25 by omega, show op ≠ 26 by omega, show op ≠ 27 by omega, show op ≠ 28 by omega, show op ≠ 29 by omega, show op ≠ 30 by omega, show op ≠ 31 by omega, show op ≠ 32 by omega, h7, h20, he] at hx
    subst hx
    exact (exe_reckon op a m h7 h20 (Q := fun w' => ∃ x, RunX w0 rb tg fa fo n c rs ((st.top { t with stack := s } bl).raise byZero) ((fb, b) :: gl) (x :: pbs) w') fun W' hW => reckon_zero (st := st.top t bl) op x y s (h.on hW) rfl hs h7 h20 hy he (by show st.doing ≠ 3; rw [hb.doing]; decide) (by omega) (by show st.panics.length ≤ _; have := hb.pans; omega) hb.maxp).mono fun e w' ⟨he, x, hr⟩ => ⟨he, _, _, hr, lk_raise x (hlk.bys hb.doing) rfl rfl rfl⟩
set_option maxRecDepth 100000 in
theorem execute_any (i : Ins) (h : RunX w0 rb tg fa fo n c rs (st.top t bl) ((fb, b) :: gl) pbs W) (hlk : SLink (st.top t bl) ((fb, b) :: gl) pbs) (hx : exec (fns rs) st t bl i = some st2) (hb : ExB rs st t bl i) :
    Calls Try.prog 25 #[.pointer (some ⟨rb, 0, none⟩), .pointer (some ⟨fb, 0, none⟩), .agg #[.int .u8 i.op, .int .i64 i.arg, .int .u64 i.imm]] W (JoinP w0 rb tg fa fo n c rs st2) := by
  obtain ⟨op, a, m⟩ := i
  by_cases h7 : 7 ≤ op ∧ op ≤ 20
  · exact join_op op h7.1 h7.2 h hlk hx hb
  by_cases hr : op < 1 ∨ 32 < op
  · exfalso
    simp [exec, show op ≠ 1 by omega, show op ≠ 2 by omega, show op ≠ 3 by omega, show op ≠ 4 by omega, show op ≠ 5 by omega, show op ≠ 6 by omega, show op ≠ 21 by omega, show op ≠ 22 by omega, show op ≠ 23 by omega, show op ≠ 24 by omega, show op ≠ 25 by omega, show op ≠ 26 by omega, show op ≠ 27 by omega, show op ≠ 28 by omega, show op ≠ 29 by omega, show op ≠ 30 by omega, show op ≠ 31 by omega, show op ≠ 32 by omega, h7] at hx
  rcases (show op = 1 ∨ op = 2 ∨ op = 3 ∨ op = 4 ∨ op = 5 ∨ op = 6 ∨ op = 21 ∨ op = 22 ∨ op = 23 ∨ op = 24 ∨ op = 25 ∨ op = 26 ∨ op = 27 ∨ op = 28 ∨ op = 29 ∨ op = 30 ∨ op = 31 ∨ op = 32 by omega) with rfl | rfl | rfl | rfl | rfl | rfl | rfl | rfl | rfl | rfl | rfl | rfl | rfl | rfl | rfl | rfl | rfl | rfl
  · exact join_1 h hlk hx hb
  · exact join_2 h hlk hx hb
  · exact join_3 h hlk hx hb
  · exact join_4 h hlk hx hb
  · exact join_5 h hlk hx hb
  · exact join_6 h hlk hx hb
  · exact join_21 h hlk hx hb
  · exact join_22 h hlk hx hb
  · exact join_23 h hlk hx hb
  · exact join_24 h hlk hx hb
  · exact join_25 h hlk hx hb
  · exact join_26 h hlk hx hb
  · exact join_27 h hlk hx hb
  · exact join_28 h hlk hx hb
  · exact join_29 h hlk hx hb
  · exact join_30 h hlk hx hb
  · exact join_31 h hlk hx hb
  · exact join_32 h hlk hx hb
end
end Go.Proofs.Ytdoabcmfblmklaa

/-
  Package sem: a step.
-/
namespace Go.Proofs.Ytdoabcmfblmklaa
set_option linter.unusedVariables false
set_option linter.unusedSimpArgs false
open Go.ChangeShapes Go.WideShapes Go.ChangeAt Go.RowKit

section
variable {w0 W W' : World} {rb tg fa fo n c : Nat} {rs : List Raw} {st st1 st2 : Mc} {t t' : Fr} {bl : List Fr} {gl : List (Nat × Nat)} {pbs : List Nat} {fb b N : Nat}
set_option maxRecDepth 100000 in
set_option maxHeartbeats 6400000 in
theorem step_any (r : Raw) (i : Ins) (x : Nat) (h : RunX w0 rb tg fa fo n c rs st ((fb, b) :: gl) pbs W) (hlk : SLink st ((fb, b) :: gl) pbs) (hf : st.frames = t :: bl) (hr : rs[t.f]? = some r) (hnx : t.next = (x : Int)) (hi : r.fn.code[x]? = some i) (hd : st.doing = 0) (hsteps : st.steps ≤ 1048576) (hcl : r.fn.code.length ≤ 1000000)
    (hex : exec (fns rs) { st with steps := st.steps + 1 } { t with next := t.next + 1 } bl i = some st1) (hbx : ExB rs { st with steps := st.steps + 1 } { t with next := t.next + 1 } bl i) (hset : settle (fns rs) N st1 = some st2) (hrn : Rnds rs N st1) :
    Calls Try.prog 16 #[.pointer (some ⟨rb, 0, none⟩)] W (JoinP w0 rb tg fa fo n c rs st2) := by
  obtain ⟨hrz, _, _, _, _, c10, _, fz⟩ := h.cells
  have f10 : W.frozen? ⟨rb, 10, none⟩ = false := fz 10
  have hbl : bl.length ≤ 1048577 := by have := hbx.frames; omega
  obtain ⟨s0, hs0⟩ : ∃ s, s = st.steps := ⟨_, rfl⟩
  obtain ⟨s1, hs1⟩ : ∃ s, s = s0 + 1 := ⟨_, rfl⟩
  rw [← hs0] at c10 hsteps hex hbx
  rw [← hs1] at hex hbx
  have hsum : (s0 : Int) + 1 = (s1 : Int) := by omega
  have hs1b : s1 ≤ 1048577 := by omega
  have H1 : Hid (RunX w0 rb tg fa fo n c rs { st with steps := s1 } ((fb, b) :: gl) pbs (W.setCell ⟨rb, 10, none⟩ (.int .i64 s1))) := Lib.hid (h.setSteps s1 (by rw [hd]; decide))
  have HL := Lib.hid (last_any (t := t) (bl := bl) H1.out hf hbl)
  have HF := Lib.hid hf
  have HLK := Lib.hid hlk
  have HD := Lib.hid hd
  have HEX := Lib.hid hex
  have HBX := Lib.hid hbx
  have HSE := Lib.hid hset
  have HRN := Lib.hid hrn
  have HR := Lib.hid hr
  have HI := Lib.hid hi
  have HNX := Lib.hid hnx
  have hxl : x < r.fn.code.length := (List.getElem?_eq_some_iff.1 hi).1
  obtain ⟨L, hL⟩ : ∃ L, L = r.fn.code.length := ⟨_, rfl⟩
  rw [← hL] at hxl hcl
  have HLL := Lib.hid hL
  clear h hlk hf hd hex hbx hset hrn hr hi hnx fz hs0 hs1 hL
  go_enter Try.func16, Try.ntmps16
  go_wp2_with (go_at_call 24; refine HL.out.mono ?_; rintro e w2 ⟨rfl, hb2⟩; refine Hid.out ?_)
  have h2 := H1.out.on hb2
  obtain ⟨hz2, hrz2, d0, d1, _, _, f1, _⟩ := h2.top (t := t) (bl := bl) HF.out
  obtain ⟨hfz, _, _, _, _, k4, hrd, _⟩ := h2.fn_ HR.out
  rw [HNX.out] at d1
  rw [← HLL.out] at k4 hrd
  obtain ⟨bc, oc, j, hco, hbc, HXJ, y0, y1, y2⟩ := hrd.ins hxl
  obtain rfl : i = j := by have h1 := HXJ.out; rw [HI.out] at h1; injection h1
  rw [hco] at k4
  have hbcz : bc < w2.heap.size := by omega
  have hx1 : x ≤ 1000000 := by omega
  obtain ⟨x1, hx1e⟩ : ∃ y, y = x + 1 := ⟨_, rfl⟩
  have hxs : (x : Int) + 1 = (x1 : Int) := by omega
  have hx1b : x1 ≤ 1000001 := by omega
  have H3 : Hid (RunX w0 rb tg fa fo n c rs (({ st with steps := s1 } : Mc).top { t with next := t.next + 1 } bl) ((fb, b) :: gl) pbs (w2.setCell ⟨fb, 1, none⟩ (.int .i64 x1))) := Lib.hid (by
    rw [show t.next + 1 = (x1 : Int) by rw [HNX.out]; omega]
    exact h2.setNext HF.out x1)
  have HE : Hid (∀ W', RunX w0 rb tg fa fo n c rs (({ st with steps := s1 } : Mc).top { t with next := t.next + 1 } bl) ((fb, b) :: gl) pbs W' → Calls Try.prog 25 #[.pointer (some ⟨rb, 0, none⟩), .pointer (some ⟨fb, 0, none⟩), .agg #[.int .u8 i.op, .int .i64 i.arg, .int .u64 i.imm]] W' (JoinP w0 rb tg fa fo n c rs st1)) := Lib.hid fun W' h' =>
    execute_any i h' (lk_same (t := t) (t' := { t with next := t.next + 1 }) (by have := HLK.out.one (.inl HD.out); rwa [HF.out] at this) rfl rfl (.inl HD.out)) HEX.out HBX.out
  clear h2 hrd HXJ hb2 hx1e
  refine Lib.hid ?_
  go_wp2
  go_region
  all_goals
    go_wp2_with (first
      | (go_at_call 25; refine (HE.out _ (by first | exact H3.out.on ((Below.refl _ _).alloc (Nat.le_refl _) _).drew | exact H3.out.on ((Below.refl _ _).drew.alloc (Nat.le_refl _) _) | exact H3.out.on ((Below.refl _ _).alloc (Nat.le_refl _) _))).mono ?_; rintro e w4 ⟨rfl, gl', pbs', h4, hlk4⟩; have H4 := Lib.hid h4; have HLK4 := Lib.hid hlk4; clear h4 hlk4)
      | (go_at_call 26; refine (settle_any N HSE.out HRN.out HLK4.out H4.out).mono ?_; rintro e w5 ⟨rfl, gl2, pbs2, h5, hlk5⟩; have H5 := Lib.hid h5; have HLK5 := Lib.hid hlk5; clear h5 hlk5))
    go_end0
    exact ⟨rfl, gl2, pbs2, H5.out, HLK5.out⟩
end
end Go.Proofs.Ytdoabcmfblmklaa

/-
  Package sem: a trace made, a run at its beginning.
-/
namespace Go.Proofs.Ytdoabcmfblmklaa
set_option linter.unusedVariables false
set_option linter.unusedSimpArgs false
open Go.ChangeShapes Go.WideShapes Go.ChangeAt Go.RowKit

/-- what a new trace is -/
def NewT (w : World) (n : Nat) (tape : List Int) (e : Ending) (w' : World) : Prop := ∃ tg v', e = .returned (.pointer (some ⟨tg, 0, none⟩)) ∧ w.heap.size ≤ tg ∧ w'.ownsRow w.heap.size 30 1 v' n (u64c tape) ∧ Blk w' tg 87 #[v', .slice none 0 0] ∧ Below w.heap.size w w'
set_option maxRecDepth 100000 in
set_option maxHeartbeats 1600000 in
theorem new_any (B : Nat) (ao : Option Addr) (n c : Nat) (tape : List Int) (w : World) (h : Reads w B 1 ao n (u64c tape)) (hB : B ≤ w.heap.size) (hr : n * 8 ≤ 140737488355328) :
    Calls Try.prog 13 #[.slice ao n c] w (NewT w n tape) := by
  have HC := Lib.hid (clone_u64 B ao n c tape w h hB hr)
  clear h
  go_enter Try.func13, Try.ntmps13
  go_wp2_with (first | (go_at_call 23; refine HC.out.mono ?_; rintro e w2 ⟨v', rfl, hown, hb2⟩; obtain ⟨A2, c2, rfl⟩ := own_slice hown; have HO := Lib.hid hown; have HB2 := Lib.hid hb2; clear hown hb2))
  go_ret
  exact ⟨w2.heap.size, _, rfl, HB2.out.size, HO.out.alloc _, Blk.new w2 _ _, HB2.out.alloc HB2.out.size _⟩
section
variable {w0 W : World} {rb tg fa fo n c m : Nat} {rs : List Raw} {tape : List Int} {v' : Value}
def mc0 (tape : List Int) : Mc := ⟨tape, [], [], [], [], 0, 0, 0, 0, 0, 0, 0, 0⟩
theorem RunX.start (hb : Below w0.heap.size w0 W) (hp : RdP W w0.heap.size (some ⟨fa, fo, none⟩) n rs) (ht : Blk W tg 87 #[v', .slice none 0 0]) (hv : W.ownsRow w0.heap.size 30 1 v' m (u64c tape)) (htg : w0.heap.size ≤ tg) (hrb : w0.heap.size ≤ rb)
    (hr : Blk W rb 68 #[.slice (some ⟨fa, fo, none⟩) n c, ptrV tg, .slice none 0 0, .slice none 0 0, .slice none 0 0, .int .i64 0, .int .i64 0, .slice none 0 0, .int .i64 0, .int .u64 0, .int .i64 0, .int .i64 0, .int .i64 0, .int .i64 0]) :
    RunX w0 rb tg fa fo n c rs (mc0 tape) [] [] W := by
  have hne : tg ≠ rb := ht.ne_ hr (by decide)
  obtain ⟨ow, how⟩ : ∃ ow : Nat → Nat, ow = fun i => if i < w0.heap.size then 9 else if i = rb then 0 else if i = tg then 1 else if v'.ownBlock = some i then 2 else 10 := ⟨_, rfl⟩
  have o9 : ∀ i, i < w0.heap.size → ow i = 9 := fun i hi => by rw [how]; exact if_pos hi
  have o0 : ow rb = 0 := by rw [how]; show (if _ then _ else _) = _; rw [if_neg (by omega), if_pos rfl]
  have o1 : ow tg = 1 := by rw [how]; show (if _ then _ else _) = _; rw [if_neg (by omega), if_neg hne, if_pos rfl]
  have hlen : tape.length = m := by have h1 := hv.1; rw [length_u64c] at h1; omega
  refine ⟨⟨.slice none 0 0, .slice none 0 0, .slice none 0 0, .slice none 0 0, v', .slice none 0 0, [], []⟩, ow, ⟨⟨hr, o0, hrb⟩, ⟨own_none _ _ _ _, fun g hg => by cases hg⟩, trivial, ⟨own_none _ _ _ _, fun g hg => by cases hg⟩, ⟨own_none _ _ _ _, fun g hg => by cases hg⟩, trivial, List.nodup_nil, ⟨⟨ht, o1, htg⟩, ?_, ⟨own_none _ _ _ _, fun g hg => by cases hg⟩⟩, fun _ => rfl, (fun h => by cases h), hp, hb, o9⟩, rfl, rfl⟩
  rcases hv.2 with ⟨rfl, h0⟩ | ⟨g, cap, cur, rfl, hg, hgb, hnc, hmx, hcs, htk⟩
  · exact ⟨none, 0, 0, rfl, Nat.le_refl _, Nat.zero_le _, (by show tape.length = 0; omega), fun _ => rfl, fun h => absurd h (by omega)⟩
  · refine ⟨some ⟨g, 0, none⟩, m, cap, rfl, hnc, hmx, hlen, (fun h => by cases h), fun hm => ⟨g, 0, cur, rfl, hg, ?_, hgb, fun j x hj => ?_⟩⟩
    · have hgB : Blk W g 30 cur := hgb
      have e1 : g ≠ rb := hgB.ne_ hr (by decide)
      have e2 : g ≠ tg := hgB.ne_ ht (by decide)
      rw [how]
      show (if _ then _ else _) = _
      rw [if_neg (by omega), if_neg e1, if_neg e2, if_pos (by rfl)]
    · have hjl : j < tape.length := (List.getElem?_eq_some_iff.1 hj).1
      rw [Nat.zero_add, ← Array.getElem?_toList]
      have h1 : (u64c tape)[j]? = some (.int .u64 x) := u64c_at hj
      rw [← htk, List.getElem?_take, if_pos (by omega)] at h1
      exact h1
end
end Go.Proofs.Ytdoabcmfblmklaa

/-
  Package sem: a run, as long as there is fuel.
-/
namespace Go.Proofs.Ytdoabcmfblmklaa
set_option linter.unusedVariables false
set_option linter.unusedSimpArgs false
open Go.ChangeShapes Go.WideShapes Go.ChangeAt Go.RowKit

/-- a step that can be walked -/
def StepB (rs : List Raw) (st st2 : Mc) : Prop := ∃ (t : Fr) (bl : List Fr) (r : Raw) (i : Ins) (x : Nat) (st1 : Mc) (N : Nat), st.frames = t :: bl ∧ rs[t.f]? = some r ∧ t.next = (x : Int) ∧ r.fn.code[x]? = some i ∧ st.doing = 0 ∧ st.steps ≤ 1048576 ∧ r.fn.code.length ≤ 1000000 ∧
  exec (fns rs) { st with steps := st.steps + 1 } { t with next := t.next + 1 } bl i = some st1 ∧ ExB rs { st with steps := st.steps + 1 } { t with next := t.next + 1 } bl i ∧ settle (fns rs) N st1 = some st2 ∧ Rnds rs N st1 ∧ st2.steps = st.steps + 1 ∧ st2.evs.length ≤ 1048577
/-- steps that can be walked, as many as there is fuel, or to the run's end -/
def RunB (rs : List Raw) : Nat → Mc → Mc → Prop
  | 0, st, st' => st' = st
  | n + 1, st, st' => if st.doing = 3 then st' = st else ∃ st2, StepB rs st st2 ∧ RunB rs n st2 st'
theorem RunB.over {rs : List Raw} {n : Nat} {st st' : Mc} (h : RunB rs n st st') (hd : st.doing = 3) : st' = st := by
  cases n with
  | zero => exact h
  | succ n => unfold RunB at h; rw [if_pos hd] at h; exact h
section
variable {w0 W W' : World} {rb tg fa fo n c : Nat} {rs : List Raw} {st st1 st2 : Mc} {gl : List (Nat × Nat)} {pbs : List Nat}
theorem stepB_any (h : RunX w0 rb tg fa fo n c rs st gl pbs W) (hlk : SLink st gl pbs) (hs : StepB rs st st2) :
    Calls Try.prog 16 #[.pointer (some ⟨rb, 0, none⟩)] W (JoinP w0 rb tg fa fo n c rs st2) := by
  obtain ⟨t, bl, r, i, x, st1, N, hf, hr, hnx, hi, hd, hst, hcl, hex, hbx, hset, hrn, _⟩ := hs
  obtain ⟨fb, b, gl', rfl⟩ := h.uncons hf
  exact step_any r i x h hlk hf hr hnx hi hd hst hcl hex hbx hset hrn
end
end Go.Proofs.Ytdoabcmfblmklaa

/-
  Package kinds: topOf, resultOf, successors, takes.
-/
namespace Go.Proofs.Ytdoabcmfblmklaa
set_option linter.unusedVariables false
open Go.ChangeShapes Go.WideShapes Go.ChangeAt Go.RowKit

/-- what a function's walker holds -/
def WkC (A : Option Addr) (n c : Nat) (r : Raw) (rv sv wv : Value) : Array Value :=
  #[.slice A n c, .int .i64 r.fn.params, .slice r.lo r.fn.locals.length r.lc, .bool r.fn.result, .int .i64 r.fn.keep, .slice r.co r.fn.code.length r.cc, rv, sv, wv]
/-- a walker and its program -/
structure Wk (w : World) (B g : Nat) (A : Option Addr) (n c : Nat) (rs : List Raw) (r : Raw) (rv sv wv : Value) : Prop where
  blk : Blk w g 107 (WkC A n c r rv sv wv)
  prog : RdP w B A n rs
  fn : RdF w B r
  wf : WfF r.fn
  le : B ≤ w.heap.size
  ok : okP (fns rs) = true
  okf : okF r.fn = true
  bg : B ≤ g
section
variable {w w' : World} {B g n c : Nat} {A : Option Addr} {rs : List Raw} {r : Raw} {rv sv wv : Value}
theorem Wk.below (h : Wk w B g A n c rs r rv sv wv) (hb : Below w.heap.size w w') : Wk w' B g A n c rs r rv sv wv :=
  ⟨h.blk.below hb h.blk.lt, h.prog.below (hb.mono h.le), h.fn.below (hb.mono h.le), h.wf, by have := hb.size; have := h.le; omega, h.ok, h.okf, h.bg⟩
theorem Wk.alloc (h : Wk w B g A n c rs r rv sv wv) (o : Obj) : Wk (w.alloc o) B g A n c rs r rv sv wv := h.below ((Below.refl _ _).alloc (Nat.le_refl _) o)
theorem Wk.cells (h : Wk w B g A n c rs r rv sv wv) : w.cell? ⟨g, 0, none⟩ = some (.slice A n c) ∧ w.cell? ⟨g, 1, none⟩ = some (.int .i64 r.fn.params) ∧ w.cell? ⟨g, 2, none⟩ = some (.slice r.lo r.fn.locals.length r.lc) ∧
    w.cell? ⟨g, 3, none⟩ = some (.bool r.fn.result) ∧ w.cell? ⟨g, 4, none⟩ = some (.int .i64 r.fn.keep) ∧ w.cell? ⟨g, 5, none⟩ = some (.slice r.co r.fn.code.length r.cc) ∧ w.cell? ⟨g, 6, none⟩ = some rv ∧ w.cell? ⟨g, 7, none⟩ = some sv ∧ w.cell? ⟨g, 8, none⟩ = some wv :=
  ⟨h.blk.cell 0, h.blk.cell 1, h.blk.cell 2, h.blk.cell 3, h.blk.cell 4, h.blk.cell 5, h.blk.cell 6, h.blk.cell 7, h.blk.cell 8⟩
end
theorem newK_at {w W : World} (l : List Int) (m : Nat) (hm : m = l.length) (hl : m ≤ 100) (hb : Below w.heap.size w W) : NewK w l (.returned (.slice (some ⟨W.heap.size, 0, none⟩) m m)) (W.alloc (.cells (u8c l).toArray 47)) := by
  refine ⟨_, m, _, rfl, hm, ⟨by rw [length_u8c]; omega, .inr ⟨W.heap.size, m, (u8c l).toArray, rfl, hb.size, heap_alloc_new _ _, Nat.le_refl _, by unfold maxLen; omega, by simp [length_u8c]; omega, ?_⟩⟩, hb.alloc hb.size _⟩
  rw [List.take_of_length_le (by simp [length_u8c]; omega)]
theorem rdK_at {w W : World} (l : List Int) (m : Nat) (hm : m = l.length) (hl : m ≤ 100) (hb : Below w.heap.size w W) : RdK w l (.returned (.slice (some ⟨W.heap.size, 0, none⟩) m m)) (W.alloc (.cells (u8c l).toArray 47)) := (newK_at l m hm hl hb).rdK
theorem rdK_nil {w W : World} (hb : Below w.heap.size w W) : RdK w [] (.returned (.slice none 0 0)) W := ⟨none, 0, 0, rfl, rfl, Nat.le_refl _, Reads.none_, hb⟩

set_option maxRecDepth 100000 in
set_option maxHeartbeats 1600000 in
theorem topOf_any (B : Nat) (A : Option Addr) (n c : Nat) (s : Stk) (w : World) (h : Reads w B 1 A n (u8c s)) (hn : n ≤ 100000) :
    Calls Try.prog 83 #[.slice A n c] w fun e w' => e = .returned (.int .u8 (topK s)) ∧ w = w' := by
  have hl : s.length = n := by have := h.1; rw [length_u8c] at this; omega
  rcases Nat.eq_zero_or_pos n with rfl | hp
  · have hs : s = [] := List.eq_nil_of_length_eq_zero hl
    subst hs
    clear h hl
    go_enter Try.func83, Try.ntmps83
    go_wp2
    go_ret
    exact ⟨rfl, rfl⟩
  · obtain ⟨k, rfl⟩ : ∃ k, n = k + 1 := ⟨n - 1, by omega⟩
    obtain ⟨b, off, x, rfl, hb, HX, x0⟩ := h.byte (k := k) (by omega)
    have HT : Hid (topK s = x) := Lib.hid (by
      unfold topK
      rw [List.getLast?_eq_getElem?, hl, Nat.add_sub_cancel, HX.out]; rfl)
    rw [HT.out]
    have g0 : ((k : Int) + 1 == 0) = false := by simp; omega
    have hk1 : ((k : Int) + 1) - 1 = (k : Int) := by omega
    have h0 : (0 : Int) ≤ (k : Int) := by omega
    have h1 : (k : Int) < (k : Int) + 1 := by omega
    clear h hl hp
    go_enter Try.func83, Try.ntmps83
    go_wp2
    go_ret
    exact ⟨rfl, rfl⟩
set_option maxRecDepth 100000 in
theorem resultOf_any (r : Raw) (w : World) :
    Calls Try.prog 87 #[.agg #[.int .i64 r.fn.params, .slice r.lo r.fn.locals.length r.lc, .bool r.fn.result, .int .i64 r.fn.keep, .slice r.co r.fn.code.length r.cc]] w (NewK w (resOf r.fn)) := by
  have HB : ∀ o : Obj, Hid (Below w.heap.size w (w.alloc o)) := fun o => (Below.refl _ _).alloc (Nat.le_refl _) o
  unfold resOf
  cases hr : r.fn.result with
  | false =>
    clear hr
    obtain ⟨⟨p, ls, fl, kp, is⟩, lo, lc, co, cc⟩ := r
    go_enter Try.func87, Try.ntmps87
    go_wp2
    go_ret
    exact ⟨none, 0, 0, rfl, rfl, own_none _ _ _ _, (HB _).out⟩
  | true =>
    clear hr
    obtain ⟨⟨p, ls, fl, kp, is⟩, lo, lc, co, cc⟩ := r
    go_enter Try.func87, Try.ntmps87
    go_wp2
    go_ret
    have h := newK_at [0] 1 rfl (by omega) (HB (.cells #[.int .i64 p, .slice lo ls.length lc, .bool true, .int .i64 kp, .slice co is.length cc] 46)).out
    rw [World.size_alloc] at h
    exact h
/-- a new row of ints -/
def intc (l : List Nat) : List Value := l.map fun x : Nat => Value.int .i64 (x : Int)
def NewI (w : World) (l : List Nat) (e : Ending) (w' : World) : Prop :=
  ∃ A m, e = .returned (.slice A m m) ∧ m = l.length ∧ Reads w' w'.heap.size 1 A m (intc l) ∧ (∀ ad, A = some ad → w.heap.size ≤ ad.block) ∧ Below w.heap.size w w'
theorem newI_at {w W : World} (l : List Nat) (m : Nat) (hm : m = l.length) (hb : Below w.heap.size w W) : NewI w l (.returned (.slice (some ⟨W.heap.size, 0, none⟩) m m)) (W.alloc (.cells (intc l).toArray 3)) :=
  ⟨_, m, rfl, hm, reads_blk (Blk.new W 3 (intc l).toArray) (by simp [intc]; omega), (fun ad h => by injection h with h; subst h; exact hb.size), hb.alloc hb.size _⟩
set_option maxRecDepth 100000 in
set_option maxHeartbeats 1600000 in
theorem succ_any (a : Nat) (i : Ins) (w : World) (ha : a ≤ 100000) (h0 : 0 ≤ i.arg) :
    Calls Try.prog 77 #[.int .i64 a, .agg #[.int .u8 i.op, .int .i64 i.arg, .int .u64 i.imm]] w (NewI w (succK a i)) := by
  have HB : ∀ o : Obj, Hid (Below w.heap.size w (w.alloc o)) := fun o => (Below.refl _ _).alloc (Nat.le_refl _) o
  obtain ⟨op, arg, imm⟩ := i
  simp only at h0 ⊢
  obtain ⟨t, rfl⟩ : ∃ t : Nat, arg = (t : Int) := ⟨arg.toNat, by omega⟩
  unfold succK
  simp only [Int.toNat_natCast]
  by_cases c1 : op = 21
  · rw [if_pos c1]
    subst c1
    go_enter Try.func77, Try.ntmps77
    go_wp2
    go_ret
    have h := newI_at [t] 1 rfl (HB (.cells #[.int .u8 21, .int .i64 t, .int .u64 imm] 43)).out
    rw [World.size_alloc] at h
    exact h
  rw [if_neg c1]
  have g1 : (op == 21) = false := by simpa using c1
  by_cases c2 : op = 22
  · rw [if_pos c2]
    subst c2
    clear c1 g1
    go_enter Try.func77, Try.ntmps77
    go_wp2
    go_ret
    have h := newI_at [a + 1, t] 2 rfl (HB (.cells #[.int .u8 22, .int .i64 t, .int .u64 imm] 43)).out
    rw [World.size_alloc] at h
    exact h
  rw [if_neg c2]
  have g2 : (op == 22) = false := by simpa using c2
  by_cases c3 : op = 24 ∨ op = 26 ∨ op = 30
  · rw [if_pos c3]
    clear c1 c2 g1 g2
    rcases c3 with rfl | rfl | rfl
    all_goals
      go_enter Try.func77, Try.ntmps77
      go_wp2
      go_ret
      exact ⟨none, 0, rfl, rfl, Reads.none_, (fun ad h => by cases h), (HB _).out⟩
  rw [if_neg c3]
  have g3 : (op == 24) = false := by simp; omega
  have g4 : (op == 26) = false := by simp; omega
  have g5 : (op == 30) = false := by simp; omega
  clear c1 c2 c3
  go_enter Try.func77, Try.ntmps77
  go_wp2
  go_ret
  have h := newI_at [a + 1] 1 rfl (HB (.cells #[.int .u8 op, .int .i64 t, .int .u64 imm] 43)).out
  rw [World.size_alloc] at h
  exact h
end Go.Proofs.Ytdoabcmfblmklaa

/-
  A walker's memory: what is reached, the stacks, what waits; what a step leaves of it.
-/
namespace Go.Proofs.Ytdoabcmfblmklaa
set_option linter.unusedVariables false
open Go.ChangeShapes Go.WideShapes Go.ChangeAt Go.RowKit

/-- all old blocks but some are as they were -/
structure Kp (w w' : World) (ex : Nat → Prop) : Prop where
  os : w'.os = w.os
  tape : w'.tape = w.tape
  output : w'.output = w.output
  size : w.heap.size ≤ w'.heap.size
  block : ∀ i, i < w.heap.size → ¬ ex i → w'.heap[i]? = w.heap[i]?
section
variable {w w' w1 w2 : World} {ex ex' : Nat → Prop} {B : Nat}
theorem Kp.refl (w : World) (ex : Nat → Prop) : Kp w w ex := ⟨rfl, rfl, rfl, Nat.le_refl _, fun _ _ _ => rfl⟩
theorem Kp.trans (h : Kp w w1 ex) (k : Kp w1 w2 ex') (he : ∀ i, i < w.heap.size → ex' i → ex i) : Kp w w2 ex :=
  ⟨k.os.trans h.os, k.tape.trans h.tape, k.output.trans h.output, Nat.le_trans h.size k.size, fun i hi hn => (k.block i (Nat.lt_of_lt_of_le hi h.size) fun hx => hn (he i hi hx)).trans (h.block i hi hn)⟩
theorem Kp.of_below (h : Below w.heap.size w w') (ex : Nat → Prop) : Kp w w' ex := ⟨h.os, h.tape, h.output, h.size, fun i hi _ => h.block i hi⟩
theorem Kp.of_grown {row : Option Nat} (h : w.grownBy w' row) (he : ∀ i, row = some i → ex i) : Kp w w' ex := ⟨h.os, h.tape, h.output, h.size, fun i hi hn => h.block i hi fun e => hn (he i e.symm)⟩
theorem Kp.set (w : World) (p : Addr) (v : Value) (hp : ex p.block) : Kp w (w.setCell p v) ex :=
  ⟨rfl, rfl, rfl, by simp [World.setCell], fun i hi hn => Below.heap_setCell w p v i (by rintro rfl; exact hn hp)⟩
theorem Kp.below (h : Kp w w' ex) (hB : B ≤ w.heap.size) (he : ∀ i, ex i → B ≤ i) : Below B w w' :=
  ⟨h.os, h.tape, h.output, h.size, fun i hi => h.block i (by omega) fun hx => by have := he i hx; omega⟩
theorem Kp.wider (h : Kp w w' ex) (he : ∀ i, i < w.heap.size → ex i → ex' i) : Kp w w' ex' := ⟨h.os, h.tape, h.output, h.size, fun i hi hn => h.block i hi fun hx => hn (he i hi hx)⟩
theorem Kp.drew (h : Kp w w' ex) : Kp w w'.drew ex := ⟨h.os, h.tape, h.output, h.size, h.block⟩
theorem Kp.own {base size n : Nat} {e : TypeId} {v : Value} {xs : List Value} (h : Kp w w' ex) (ho : w.ownsRow base e size v n xs) (hn : ∀ i, v.ownBlock = some i → ¬ ex i) : w'.ownsRow base e size v n xs :=
  own_kept ho fun i hi => h.block i (own_lt ho hi).2 (hn i hi)
theorem Kp.blk {g : Nat} {t : TypeId} {cs : Array Value} (h : Kp w w' ex) (hb : Blk w g t cs) (hn : ¬ ex g) : Blk w' g t cs := (h.block g hb.lt hn).trans hb
end

def reachC (l : List (Option Stk)) : List Value := l.map fun x => .bool x.isSome
def Ex (g ra sa : Nat) (wv : Value) (i : Nat) : Prop := i = g ∨ i = ra ∨ i = sa ∨ wv.ownBlock = some i
structure WS (w : World) (B g ra sa : Nat) (A : Option Addr) (n c : Nat) (rs : List Raw) (r : Raw) (m : Nat) (l : List (Option Stk)) (wl : List Nat) (vs : List Value) (WA : Option Addr) (wk wcap : Nat) : Prop where
  wkr : Wk w B g A n c rs r (.slice (some ⟨ra, 0, none⟩) m m) (.slice (some ⟨sa, 0, none⟩) m m) (.slice WA wk wcap)
  len : l.length = m
  clen : r.fn.code.length = m
  small : m ≤ 256
  reached : Blk w ra 4 (reachC l).toArray
  stacks : Blk w sa 44 vs.toArray
  vlen : vs.length = m
  vat : ∀ (j : Nat) x, l[j]? = some x → ∃ a q k, vs[j]? = some (.slice a q k) ∧ q = (x.getD []).length ∧ w.ownsRow B 47 1 (.slice a q k) q (u8c (x.getD []))
  wlen : wl.length = wk
  wait : w.ownsRow B 3 1 (.slice WA wk wcap) wk (intc wl)
  bra : B ≤ ra
  bsa : B ≤ sa
section
variable {w w' w2 w8 : World} {B g ra sa n c m wk wcap b : Nat} {A WA : Option Addr} {rs : List Raw} {r : Raw} {l : List (Option Stk)} {wl : List Nat} {vs : List Value} {s : Stk} {ex : Nat → Prop}
theorem kind_ne {base size q : Nat} {v : Value} {xs : List Value} (h : WS w B g ra sa A n c rs r m l wl vs WA wk wcap) (ho : w.ownsRow base 47 size v q xs) : ∀ i, v.ownBlock = some i → ¬ Ex g ra sa (.slice WA wk wcap) i := by
  rintro i hi (rfl | rfl | rfl | hx)
  · exact own_blk_ne ho h.wkr.blk (by decide) hi
  · exact own_blk_ne ho h.reached (by decide) hi
  · exact own_blk_ne ho h.stacks (by decide) hi
  · rcases h.wait.2 with ⟨he, _⟩ | ⟨g', cap, cur, he, _, hb, _⟩
    · rw [he] at hx; cases hx
    · rw [he] at hx
      obtain rfl : g' = i := by simpa [Value.ownBlock] using hx
      exact own_blk_ne ho (g := g') (t := 3) (cs := cur) hb (by decide) hi
theorem ex_ge (h : WS w B g ra sa A n c rs r m l wl vs WA wk wcap) : ∀ i, Ex g ra sa (.slice WA wk wcap) i → B ≤ i := by
  rintro i (rfl | rfl | rfl | hx)
  · exact h.wkr.bg
  · exact h.bra
  · exact h.bsa
  · exact (own_lt h.wait hx).1
/-- what touches nothing of it -/
theorem WS.kept (h : WS w B g ra sa A n c rs r m l wl vs WA wk wcap) (hk : Kp w w' ex) (hn : ∀ i, ex i → B ≤ i) (hg : ¬ ex g) (hr : ¬ ex ra) (hs : ¬ ex sa) (hwv : ∀ i, (Value.slice WA wk wcap).ownBlock = some i → ¬ ex i)
    (hkd : ∀ (v : Value) (q : Nat) (xs : List Value), w.ownsRow B 47 1 v q xs → ∀ i, v.ownBlock = some i → ¬ ex i) : WS w' B g ra sa A n c rs r m l wl vs WA wk wcap := by
  have hB := hk.below h.wkr.le hn
  refine ⟨⟨hk.blk h.wkr.blk hg, h.wkr.prog.below hB, h.wkr.fn.below hB, h.wkr.wf, by have := hk.size; have := h.wkr.le; omega, h.wkr.ok, h.wkr.okf, h.wkr.bg⟩, h.len, h.clen, h.small, hk.blk h.reached hr, hk.blk h.stacks hs, h.vlen, fun j x hx => ?_, h.wlen, hk.own h.wait hwv, h.bra, h.bsa⟩
  obtain ⟨a, q, k, h1, h2, h3⟩ := h.vat j x hx
  exact ⟨a, q, k, h1, h2, hk.own h3 (hkd _ _ _ h3)⟩
theorem WS.below (h : WS w B g ra sa A n c rs r m l wl vs WA wk wcap) (hb : Below w.heap.size w w') : WS w' B g ra sa A n c rs r m l wl vs WA wk wcap :=
  h.kept (ex := fun _ => False) (Kp.of_below hb _) (fun _ h => h.elim) (fun h => h) (fun h => h) (fun h => h) (fun _ _ h => h) (fun _ _ _ _ _ _ h => h)
/-- one is reached: its flag and its stack -/
theorem WS.put {A2 : Option Addr} {c2 q : Nat} (h : WS w B g ra sa A n c rs r m l wl vs WA wk wcap) (hb : l[b]? = some none) (hb2 : Below w.heap.size (w.setCell ⟨ra, b, none⟩ (.bool true)) w2) (hq : q = s.length) (ho : w2.ownsRow w.heap.size 47 1 (.slice A2 q c2) q (u8c s)) :
    WS (w2.setCell ⟨sa, b, none⟩ (.slice A2 q c2)) B g ra sa A n c rs r m (l.set b (some s)) wl (vs.set b (.slice A2 q c2)) WA wk wcap ∧ Kp w (w2.setCell ⟨sa, b, none⟩ (.slice A2 q c2)) (fun i => i = ra ∨ i = sa) := by
  have hle := h.wkr.le
  have hsz : (w.setCell ⟨ra, b, none⟩ (.bool true)).heap.size = w.heap.size := by simp [World.setCell]
  have hk1 : Kp w (w.setCell ⟨ra, b, none⟩ (.bool true)) (fun i => i = ra ∨ i = sa) := Kp.set w _ _ (.inl rfl)
  have hk2 : Kp (w.setCell ⟨ra, b, none⟩ (.bool true)) w2 (fun i => i = ra ∨ i = sa) := Kp.of_below (by rw [hsz]; exact hb2) _
  have hk12 : Kp w w2 (fun i => i = ra ∨ i = sa) := hk1.trans hk2 fun _ _ h => h
  have hk3 : Kp w2 (w2.setCell ⟨sa, b, none⟩ (.slice A2 q c2)) (fun i => i = sa) := Kp.set w2 _ _ rfl
  have hk : Kp w (w2.setCell ⟨sa, b, none⟩ (.slice A2 q c2)) (fun i => i = ra ∨ i = sa) := hk12.trans hk3 fun _ _ h => .inr h
  have hrs : ra ≠ sa := Blk.ne_ h.reached h.stacks (by decide)
  have hrg : ra ≠ g := Blk.ne_ h.reached h.wkr.blk (by decide)
  have hsg : sa ≠ g := Blk.ne_ h.stacks h.wkr.blk (by decide)
  have hB : Below B w (w2.setCell ⟨sa, b, none⟩ (.slice A2 q c2)) := hk.below hle (by rintro i (rfl | rfl); exact h.bra; exact h.bsa)
  have hst2 : Blk w2 sa 44 vs.toArray := hk2.blk ((Below.heap_setCell w ⟨ra, b, none⟩ _ sa (by simpa using hrs.symm)).trans h.stacks) |> fun f => (hb2.block sa h.stacks.lt).trans ((Below.heap_setCell w ⟨ra, b, none⟩ _ sa (by simpa using hrs.symm)).trans h.stacks)
  have hre2 : Blk w2 ra 4 ((reachC l).toArray.setIfInBounds b (.bool true)) := (hb2.block ra h.reached.lt).trans (h.reached.set_ b (.bool true))
  refine ⟨⟨⟨hk.blk h.wkr.blk (by rintro (rfl | rfl); exact hrg rfl; exact hsg rfl), h.wkr.prog.below hB, h.wkr.fn.below hB, h.wkr.wf, by have := hk.size; omega, h.wkr.ok, h.wkr.okf, h.wkr.bg⟩, by rw [List.length_set]; exact h.len, h.clen, h.small, ?_, ?_, by rw [List.length_set]; exact h.vlen, fun j x hx => ?_, h.wlen, ?_, h.bra, h.bsa⟩, hk⟩
  · have := hre2.far (p := ⟨sa, b, none⟩) hrs (.slice A2 q c2)
    have he : (reachC l).toArray.setIfInBounds b (.bool true) = (reachC (l.set b (some s))).toArray := by
      unfold reachC
      rw [List.setIfInBounds_toArray, List.map_set]; rfl
    rw [he] at this
    exact this
  · have := hst2.set_ b (.slice A2 q c2)
    rw [List.setIfInBounds_toArray] at this
    exact this
  · rw [List.getElem?_set] at hx
    split at hx
    · subst_vars
      split at hx
      · simp at hx
        subst hx
        refine ⟨A2, _, c2, by rw [List.getElem?_set]; simp [h.vlen, ← h.len]; omega, rfl, ?_⟩
        exact own_far (own_more ho hle) hst2 (by decide) _ _
      · cases hx
    · rename_i hne
      obtain ⟨a, q', k', h1, h2, h3⟩ := h.vat j x hx
      refine ⟨a, q', k', by rw [List.getElem?_set_ne hne]; exact h1, h2, hk.own h3 fun i hi hx => ?_⟩
      rcases hx with rfl | rfl
      · exact own_blk_ne h3 h.reached (by decide) hi
      · exact own_blk_ne h3 h.stacks (by decide) hi
  · refine hk.own h.wait fun i hi hx => ?_
    rcases hx with rfl | rfl
    · exact own_blk_ne h.wait h.reached (by decide) hi
    · exact own_blk_ne h.wait h.stacks (by decide) hi
/-- one more waits -/
theorem WS.push {v8 : Value} (h : WS w B g ra sa A n c rs r m l wl vs WA wk wcap) (o : Obj) (hown : w8.ownsRow B 3 1 v8 (wk + 1) (intc wl ++ [.int .i64 (b : Int)])) (hg : (w.alloc o).grownBy w8 (Value.slice WA wk wcap).ownBlock) (hor : v8.ownBlock = (Value.slice WA wk wcap).ownBlock ∨ v8.ownBlock = some (w.alloc o).heap.size) :
    ∃ WA8 c8, v8 = .slice WA8 (wk + 1) c8 ∧ w8.cell? ⟨g, 8, none⟩ = some (.slice WA wk wcap) ∧ w8.frozen? ⟨g, 8, none⟩ = false ∧ WS (w8.setCell ⟨g, 8, none⟩ v8) B g ra sa A n c rs r m l (wl ++ [b]) vs WA8 (wk + 1) c8 ∧ Kp w (w8.setCell ⟨g, 8, none⟩ v8) (Ex g ra sa (.slice WA wk wcap)) ∧
      (v8.ownBlock = (Value.slice WA wk wcap).ownBlock ∨ ∃ j, v8.ownBlock = some j ∧ w.heap.size ≤ j) := by
  obtain ⟨WA8, c8, rfl⟩ := own_slice hown
  have hle := h.wkr.le
  have hka : Kp w (w.alloc o) (Ex g ra sa (.slice WA wk wcap)) := Kp.of_below ((Below.refl _ _).alloc (Nat.le_refl _) o) _
  have hk8 : Kp (w.alloc o) w8 (Ex g ra sa (.slice WA wk wcap)) := Kp.of_grown hg fun i hi => .inr (.inr (.inr hi))
  have hk08 : Kp w w8 (fun i => (Value.slice WA wk wcap).ownBlock = some i) := (Kp.of_below ((Below.refl _ _).alloc (Nat.le_refl _) o) _).trans (Kp.of_grown (ex := fun i => (Value.slice WA wk wcap).ownBlock = some i) hg fun i hi => hi) fun _ _ h => h
  have hb8 : Blk w8 g 107 (WkC A n c r (.slice (some ⟨ra, 0, none⟩) m m) (.slice (some ⟨sa, 0, none⟩) m m) (.slice WA wk wcap)) := hk08.blk h.wkr.blk fun hx => own_blk_ne h.wait h.wkr.blk (by decide) hx
  have hrg : ra ≠ g := Blk.ne_ h.reached h.wkr.blk (by decide)
  have hsg : sa ≠ g := Blk.ne_ h.stacks h.wkr.blk (by decide)
  have hk9 : Kp w8 (w8.setCell ⟨g, 8, none⟩ (.slice WA8 (wk + 1) c8)) (Ex g ra sa (.slice WA wk wcap)) := Kp.set w8 _ _ (.inl rfl)
  have hk : Kp w (w8.setCell ⟨g, 8, none⟩ (.slice WA8 (wk + 1) c8)) (Ex g ra sa (.slice WA wk wcap)) := (hka.trans hk8 fun _ _ h => h).trans hk9 fun _ _ h => h
  have hB : Below B w (w8.setCell ⟨g, 8, none⟩ (.slice WA8 (wk + 1) c8)) := hk.below hle (ex_ge h)
  refine ⟨WA8, c8, rfl, hb8.cell 8, hb8.frozen 8, ⟨⟨hb8.set_ 8 _, h.wkr.prog.below hB, h.wkr.fn.below hB, h.wkr.wf, by have := hk.size; omega, h.wkr.ok, h.wkr.okf, h.wkr.bg⟩, h.len, h.clen, h.small, ?_, ?_, h.vlen, fun j x hx => ?_, by rw [List.length_append, h.wlen]; rfl, ?_, h.bra, h.bsa⟩, hk, ?_⟩
  · exact (hk08.blk h.reached fun hx => own_blk_ne h.wait h.reached (by decide) hx).far (p := ⟨g, 8, none⟩) hrg _
  · exact (hk08.blk h.stacks fun hx => own_blk_ne h.wait h.stacks (by decide) hx).far (p := ⟨g, 8, none⟩) hsg _
  · obtain ⟨a, q, k, h1, h2, h3⟩ := h.vat j x hx
    exact ⟨a, q, k, h1, h2, hk.own h3 (kind_ne h h3)⟩
  · have := own_far hown hb8 (by decide) 8 (.slice WA8 (wk + 1) c8)
    unfold intc at this ⊢
    rw [List.map_append]
    exact this
  · rcases hor with hor | hor
    · exact .inl hor
    · exact .inr ⟨_, hor, by simp⟩
end
end Go.Proofs.Ytdoabcmfblmklaa
