/-
  Texts of one seat, one behind the other: STyp, SGood, SSett, SExG, SExH, SRunG, SRunA.
-/
import Derived.Test.YtdoabcmfblmklaaMA8

/-
  Package sem: the plain machine, typed: what a program that obeys the rules has on its stacks, in its locals and its deferred calls.
-/
namespace Go.Proofs.Ytdoabcmfblmklaa
set_option linter.unusedVariables false
set_option linter.unusedSimpArgs false

/-- a word of a kind: a pointer is 0, or points at a local that is a number -/
def KOk (K : List Int) (k v : Int) : Prop := isW v ∧ (k = 1 → v = 0 ∨ (1 ≤ v ∧ K[(v - 1).toNat]? = some 0))
def Ty (K : List Int) : List Int → List Int → Prop
  | [], [] => True
  | k :: ks, v :: vs => KOk K k v ∧ Ty K ks vs
  | _, _ => False
section
variable {K X ks vs a b c d : List Int} {k v : Int}
theorem KOk.mono (h : KOk K k v) : KOk (K ++ X) k v :=
  ⟨h.1, fun hk => (h.2 hk).imp_right fun ⟨h1, h2⟩ => ⟨h1, by rw [List.getElem?_append_left (List.getElem?_eq_some_iff.1 h2).1]; exact h2⟩⟩
theorem KOk.num (h : isW v) : KOk K 0 v := ⟨h, fun h => by cases h⟩
theorem KOk.zero : KOk K k 0 := ⟨by unfold isW; omega, fun _ => .inl rfl⟩
theorem isW_zero : isW 0 := by unfold isW; omega
theorem isW_one : isW 1 := by unfold isW; omega
theorem Ty.len : ∀ {ks vs : List Int}, Ty K ks vs → ks.length = vs.length
  | [], [], _ => rfl
  | k :: ks, v :: vs, h => by simp only [List.length_cons]; rw [Ty.len h.2]
  | [], _ :: _, h => h.elim
  | _ :: _, [], h => h.elim
theorem Ty.mono : ∀ {ks vs : List Int}, Ty K ks vs → Ty (K ++ X) ks vs
  | [], [], _ => trivial
  | k :: ks, v :: vs, h => ⟨h.1.mono, Ty.mono h.2⟩
  | [], _ :: _, h => h.elim
  | _ :: _, [], h => h.elim
theorem Ty.append : ∀ {a b c d : List Int}, Ty K a c → Ty K b d → Ty K (a ++ b) (c ++ d)
  | [], b, [], d, _, h => h
  | k :: ks, b, v :: vs, d, h, h2 => ⟨h.1, Ty.append h.2 h2⟩
  | [], _, _ :: _, _, h, _ => h.elim
  | _ :: _, _, [], _, h, _ => h.elim
theorem Ty.split : ∀ {a b v : List Int}, Ty K (a ++ b) v → ∃ v1 v2, v = v1 ++ v2 ∧ Ty K a v1 ∧ Ty K b v2
  | [], b, v, h => ⟨[], v, rfl, trivial, h⟩
  | k :: ks, b, [], h => h.elim
  | k :: ks, b, x :: vs, h => by
    obtain ⟨v1, v2, rfl, h1, h2⟩ := Ty.split (a := ks) (b := b) (v := vs) h.2
    exact ⟨x :: v1, v2, rfl, ⟨h.1, h1⟩, h2⟩
theorem Ty.reverse : ∀ {ks vs : List Int}, Ty K ks vs → Ty K ks.reverse vs.reverse
  | [], [], _ => trivial
  | k :: ks, v :: vs, h => by
    rw [List.reverse_cons, List.reverse_cons]
    exact Ty.append (Ty.reverse h.2) ⟨h.1, trivial⟩
  | [], _ :: _, h => h.elim
  | _ :: _, [], h => h.elim
theorem Ty.isw : ∀ {ks vs : List Int}, Ty K ks vs → ∀ v ∈ vs, isW v
  | [], [], _ => fun v hv => by cases hv
  | k :: ks, v :: vs, h => fun x hx => by
    rcases List.mem_cons.1 hx with rfl | hx
    · exact h.1.1
    · exact Ty.isw h.2 x hx
  | [], _ :: _, h => h.elim
  | _ :: _, [], h => h.elim
theorem Ty.at_ : ∀ {ks vs : List Int} {j : Nat} {k : Int}, Ty K ks vs → ks[j]? = some k → ∃ v, vs[j]? = some v ∧ KOk K k v
  | [], [], j, k, _, hj => by simp at hj
  | k0 :: ks, v :: vs, 0, k, h, hj => by simp at hj; subst hj; exact ⟨v, rfl, h.1⟩
  | k0 :: ks, v :: vs, j + 1, k, h, hj => by
    obtain ⟨x, h1, h2⟩ := Ty.at_ (j := j) h.2 (by simpa using hj)
    exact ⟨x, by simpa using h1, h2⟩
  | [], _ :: _, _, _, h, _ => h.elim
  | _ :: _, [], _, _, h, _ => h.elim
theorem Ty.one (h : Ty K [k] vs) : ∃ v, vs = [v] ∧ KOk K k v := by
  rcases vs with _ | ⟨v, _ | ⟨x, vs⟩⟩
  · exact h.elim
  · exact ⟨v, rfl, h.1⟩
  · exact h.2.elim
theorem Ty.two {k2 : Int} (h : Ty K [k, k2] vs) : ∃ v v2, vs = [v, v2] ∧ KOk K k v ∧ KOk K k2 v2 := by
  rcases vs with _ | ⟨v, vs⟩
  · exact h.elim
  · obtain ⟨x, rfl, hx⟩ := Ty.one h.2
    exact ⟨v, x, rfl, h.1, hx⟩
theorem Ty.nil (h : Ty K [] vs) : vs = [] := by
  cases vs with
  | nil => rfl
  | cons _ _ => exact h.elim
end
theorem wrap_isW (n : Int) : isW (IntKind.u64.wrap n) := by unfold isW; rw [wrap_u64_eq]; omega
theorem bit_isW (x : Bool) : isW (wbit x) := by unfold wbit isW; split <;> omega
theorem ite_isW {c : Prop} [Decidable c] {a b : Int} (h1 : isW a) (h2 : isW b) : isW (if c then a else b) := by
  by_cases h : c
  · rw [if_pos h]; exact h1
  · rw [if_neg h]; exact h2
theorem shr_isW {a b : Int} (ha : isW a) : isW (wshr a b) := by
  unfold isW wshr at *
  have hp : (0 : Int) < 2 ^ min b.toNat 64 := Int.pow_pos (by omega)
  have h1 := Int.ediv_le_self (2 ^ min b.toNat 64) ha.1
  have h2 := Int.ediv_nonneg ha.1 (Int.le_of_lt hp)
  omega
theorem doV_isW (op a b : Int) (ha : isW a) : isW (doV op a b) :=
  ite_isW (wrap_isW _) (ite_isW (wrap_isW _) (ite_isW (wrap_isW _) (ite_isW (ite_isW isW_zero (wrap_isW _)) (ite_isW (ite_isW isW_zero (wrap_isW _)) (ite_isW (wrap_isW _) (ite_isW (wrap_isW _) (ite_isW (wrap_isW _) (ite_isW (wrap_isW _) (ite_isW (shr_isW ha) (ite_isW (wrap_isW _) (ite_isW (bit_isW _) (ite_isW (bit_isW _) (bit_isW _)))))))))))))

/-! what a verdict of 0 says -/
structure FOk (fs : List Fn) (f : Fn) : Prop where
  loc : f.locals.length ≤ 16
  kinds : ∀ k ∈ f.locals, k = 0 ∨ k = 1
  p0 : 0 ≤ f.params
  p1 : f.params ≤ f.locals.length
  k0 : -1 ≤ f.keep
  k1 : f.keep ≤ 254
  code : f.code.length ≤ 256
  ok : ∀ i ∈ f.code, okI i = true
  ref : ∀ i ∈ f.code, insRef fs f i = true
  keep : keepsB f = true
  fine : Fine fs f
  deep : ∀ a s, Reach fs f a s → s.length ≤ 16
structure POk (fs : List Fn) : Prop where
  pos : 0 < fs.length
  len : fs.length ≤ 16
  each : ∀ f ∈ fs, FOk fs f
  main : (fnOf fs 0).params = 0 ∧ (fnOf fs 0).result = false
theorem fnOf_mem {fs : List Fn} {k : Nat} (h : k < fs.length) : fnOf fs k ∈ fs := by
  unfold fnOf
  rw [List.getD_eq_getElem?_getD, List.getElem?_eq_getElem h]
  exact List.getElem_mem h
theorem fnOf_some {fs : List Fn} {k : Nat} (h : k < fs.length) : fs[k]? = some (fnOf fs k) := by
  unfold fnOf
  rw [List.getD_eq_getElem?_getD, List.getElem?_eq_getElem h]
  rfl
theorem verd_pok {fs : List Fn} (h : verd fs = 0) : POk fs := by
  unfold verd at h
  split at h
  · cases h
  rename_i h1
  split at h
  · cases h
  rename_i h2
  split at h
  · cases h
  rename_i h3
  split at h
  · cases h
  rename_i h4
  split at h
  · cases h
  rename_i h5
  have h1 : okP fs = true := by simpa using h1
  have h2 : bnd fs = true := by simpa using h2
  have h3 : refB fs = true := by simpa using h3
  have h4 : ∀ f ∈ fs, Fine fs f := Classical.not_not.1 h4
  simp only [okP, Bool.and_eq_true, decide_eq_true_eq, List.all_eq_true] at h1
  simp only [bnd, Bool.and_eq_true, decide_eq_true_eq, List.all_eq_true] at h2
  simp only [refB, Bool.and_eq_true, List.all_eq_true] at h3
  have hE : ∀ f ∈ fs, FOk fs f := fun f hf => by
    have a1 := h1.2 f hf
    have a2 := h2.2 f hf
    have a3 := h3.2 f hf
    simp only [okF, Bool.and_eq_true, decide_eq_true_eq, List.all_eq_true] at a1
    simp only [bndF, Bool.and_eq_true, decide_eq_true_eq] at a2
    simp only [fnRef, Bool.and_eq_true, List.all_eq_true] at a3
    obtain ⟨⟨⟨⟨⟨⟨⟨b1, b2⟩, b3⟩, b4⟩, b5⟩, b6⟩, b7⟩, b8⟩ := a1
    exact ⟨a2.1.2, fun k hk => by have := b7 k hk; simpa [kindB] using this, b3, b4, b5, b6, a2.2, b8, a3.2, a3.1, h4 f hf, fun a s hr => Nat.le_of_not_lt fun hn => h5 ⟨f, hf, a, s, hr, hn⟩⟩
  refine ⟨h1.1.1, h2.1, hE, ?_⟩
  have hm := h3.1
  have hp := (hE _ (fnOf_mem h1.1.1)).p0
  unfold mainB at hm
  cases fs with
  | nil => exact absurd h1.1.1 (by simp)
  | cons m gs =>
    simp only [Bool.and_eq_true, decide_eq_true_eq, Bool.not_eq_true'] at hm
    exact ⟨by have : m.params ≤ 0 := hm.1; have h0 : 0 ≤ m.params := hp; show m.params = 0; omega, hm.2⟩
/-- an instruction's stack: what it takes, and what stays -/
theorem afterK_split {fs : List Fn} {f : Fn} {i : Ins} {s s' : Stk} (h : afterK fs f i s = some s') : ∃ s0, s = s0 ++ takesK fs f i (topK s) ∧ s' = s0 ++ leavesK fs f i (topK s) := by
  unfold afterK at h
  split at h
  · rename_i hc
    injection h with h
    refine ⟨s.take (s.length - (takesK fs f i (topK s)).length), ?_, h.symm⟩
    have := hc.2.1
    rw [← this, List.length_drop]
    have hl := hc.1
    rw [show s.length - (s.length - (s.length - (takesK fs f i (topK s)).length)) = s.length - (takesK fs f i (topK s)).length by omega, List.take_append_drop]
  · cases h
theorem topK_snoc (s : Stk) (x : Int) : topK (s ++ [x]) = x := by unfold topK; simp
end Go.Proofs.Ytdoabcmfblmklaa

/-
  Package sem: what is kept, step by step, in a run of a program that obeys the rules: each frame typed; rows no longer than there were steps.
-/
namespace Go.Proofs.Ytdoabcmfblmklaa
set_option linter.unusedVariables false
set_option linter.unusedSimpArgs false

/-- what is asked of a frame: it goes on; it goes on behind a call; nothing -/
inductive Need where
  | run
  | res (b : Bool)
  | free
def kindsOf (fs : List Fn) : List Fr → List Int
  | [] => []
  | t :: bl => kindsOf fs bl ++ (fnOf fs t.f).locals
def n3 : List Fr → Nat
  | [] => 0
  | t :: bl => (if t.why = 3 then 1 else 0) + n3 bl
def nds : List Fr → Nat
  | [] => 0
  | t :: bl => t.defs.length + nds bl
def NeedOK (fs : List Fn) (K : List Int) (t : Fr) : Need → Prop
  | .run => ∃ s, 0 ≤ t.next ∧ Reach fs (fnOf fs t.f) t.next.toNat s ∧ Ty K s.reverse t.stack
  | .res b => ∃ s, 0 ≤ t.next ∧ Reach fs (fnOf fs t.f) t.next.toNat (s ++ (if b then [0] else [])) ∧ Ty K s.reverse t.stack
  | .free => True
def needOf (fs : List Fn) (t : Fr) : Need := if t.why = 1 then .res (fnOf fs t.f).result else .free
structure FrG (fs : List Fn) (mem K : List Int) (t : Fr) : Prop where
  f : t.f < fs.length
  why : t.why ≤ 3
  num : isW t.number
  stk : t.stack.length ≤ 18
  loc : ∀ (j : Nat) k, (fnOf fs t.f).locals[j]? = some k → ∃ v, mem[t.base + j]? = some v ∧ KOk K k v
  defs : ∀ d ∈ t.defs, d.fn < fs.length ∧ Ty K ((fnOf fs d.fn).locals.take (fnOf fs d.fn).params.toNat) d.args
def FrsG (fs : List Fn) (mem : List Int) : Need → List Fr → Prop
  | _, [] => True
  | m, t :: bl => FrG fs mem (kindsOf fs (t :: bl)) t ∧ NeedOK fs (kindsOf fs (t :: bl)) t m ∧ t.base = (kindsOf fs bl).length ∧ (bl = [] → t.why = 0) ∧ FrsG fs mem (needOf fs t) bl
section
variable {fs : List Fn} {mem mem' : List Int} {m m2 : Need} {frs bl : List Fr} {t t2 : Fr} {p : Nat} {v : Int}
theorem length_kinds (fs : List Fn) (t : Fr) (bl : List Fr) : (kindsOf fs (t :: bl)).length = (kindsOf fs bl).length + (fnOf fs t.f).locals.length := by simp [kindsOf]
theorem FrsG.keep : ∀ {m : Need} {frs : List Fr}, FrsG fs mem m frs → (∀ q, q < (kindsOf fs frs).length → mem'[q]? = mem[q]?) → FrsG fs mem' m frs
  | _, [], _, _ => trivial
  | m, t :: bl, ⟨h1, h2, h3, h4, h5⟩, hk => by
    have hlen := length_kinds fs t bl
    refine ⟨⟨h1.f, h1.why, h1.num, h1.stk, fun j k hj => ?_, h1.defs⟩, h2, h3, h4, FrsG.keep h5 fun q hq => hk q (by omega)⟩
    obtain ⟨v, hv, hK⟩ := h1.loc j k hj
    have := (List.getElem?_eq_some_iff.1 hj).1
    exact ⟨v, by rw [hk _ (by omega)]; exact hv, hK⟩
theorem FrsG.toFree : ∀ {m : Need} {frs : List Fr}, FrsG fs mem m frs → FrsG fs mem .free frs
  | _, [], _ => trivial
  | _, _ :: _, ⟨h1, _, h3, h4, h5⟩ => ⟨h1, trivial, h3, h4, h5⟩
theorem kinds_left {k : Int} (h : (kindsOf fs bl)[p]? = some k) : (kindsOf fs (t :: bl))[p]? = some k := by
  unfold kindsOf
  rw [List.getElem?_append_left (List.getElem?_eq_some_iff.1 h).1]
  exact h
theorem kinds_right {k : Int} {j : Nat} (h : (fnOf fs t.f).locals[j]? = some k) : (kindsOf fs (t :: bl))[(kindsOf fs bl).length + j]? = some k := by
  rw [kindsOf, List.getElem?_append_right (by omega), Nat.add_sub_cancel_left]
  exact h
theorem FrsG.set_num (hv : isW v) : ∀ {m : Need} {frs : List Fr}, FrsG fs mem m frs → (∀ k, (kindsOf fs frs)[p]? = some k → k = 0) → FrsG fs (mem.set p v) m frs
  | _, [], _, _ => trivial
  | m, t :: bl, ⟨h1, h2, h3, h4, h5⟩, hk => by
    refine ⟨⟨h1.f, h1.why, h1.num, h1.stk, fun j k hj => ?_, h1.defs⟩, h2, h3, h4, FrsG.set_num hv h5 fun k h => hk k (kinds_left h)⟩
    obtain ⟨u, hu, hK⟩ := h1.loc j k hj
    by_cases hp : p = t.base + j
    · subst hp
      have hk0 := hk k (by rw [h3]; exact kinds_right hj)
      subst hk0
      exact ⟨v, by rw [List.getElem?_set]; simp [(List.getElem?_eq_some_iff.1 hu).1], .num hv⟩
    · exact ⟨u, by rw [List.getElem?_set_ne hp]; exact hu, hK⟩
theorem FrsG.set_own {j : Nat} {k : Int} (h : FrsG fs mem m (t :: bl)) (hj : (fnOf fs t.f).locals[j]? = some k) (hK : KOk (kindsOf fs (t :: bl)) k v) : FrsG fs (mem.set (t.base + j) v) m (t :: bl) := by
  obtain ⟨h1, h2, h3, h4, h5⟩ := h
  refine ⟨⟨h1.f, h1.why, h1.num, h1.stk, fun j' k' hj' => ?_, h1.defs⟩, h2, h3, h4, h5.keep fun q hq => List.getElem?_set_ne (by omega)⟩
  obtain ⟨u, hu, hK'⟩ := h1.loc j' k' hj'
  by_cases hjj : j' = j
  · subst hjj
    rw [hj] at hj'
    injection hj' with hj'
    subst hj'
    exact ⟨v, by rw [List.getElem?_set]; simp [(List.getElem?_eq_some_iff.1 hu).1], hK⟩
  · exact ⟨u, by rw [List.getElem?_set_ne (by omega)]; exact hu, hK'⟩
theorem kinds_top (hf : t2.f = t.f) : kindsOf fs (t2 :: bl) = kindsOf fs (t :: bl) := by simp [kindsOf, hf]
theorem FrsG.top (h : FrsG fs mem m (t :: bl)) (hf : t2.f = t.f) (hb : t2.base = t.base) (hw : t2.why = t.why) (hnum : isW t2.number) (hstk : t2.stack.length ≤ 18)
    (hdefs : ∀ d ∈ t2.defs, d.fn < fs.length ∧ Ty (kindsOf fs (t :: bl)) ((fnOf fs d.fn).locals.take (fnOf fs d.fn).params.toNat) d.args) (hn : NeedOK fs (kindsOf fs (t :: bl)) t2 m2) : FrsG fs mem m2 (t2 :: bl) := by
  obtain ⟨h1, h2, h3, h4, h5⟩ := h
  have hk : kindsOf fs (t2 :: bl) = kindsOf fs (t :: bl) := kinds_top hf
  have hno : needOf fs t2 = needOf fs t := by unfold needOf; rw [hw, hf]
  unfold FrsG
  rw [hk, hno, hb, hw]
  exact ⟨⟨by rw [hf]; exact h1.f, by rw [hw]; exact h1.why, hnum, hstk, by rw [hf, hb]; exact h1.loc, hdefs⟩, hn, h3, h4, h5⟩
theorem FrsG.pop (h : FrsG fs mem m (t :: bl)) : FrsG fs (mem.take t.base) (needOf fs t) bl := by
  obtain ⟨h1, h2, h3, h4, h5⟩ := h
  exact h5.keep fun q hq => List.getElem?_take_of_lt (by omega)
theorem FrsG.begin {why k : Nat} {args : List Int} (h : FrsG fs mem m frs) (hm : m = if why = 1 then .res (fnOf fs k).result else .free) (hlen : mem.length = (kindsOf fs frs).length) (hk : k < fs.length) (hf : FOk fs (fnOf fs k)) (hy : why ≤ 3) (hne : frs = [] → why = 0)
    (hty : Ty (kindsOf fs frs) ((fnOf fs k).locals.take (fnOf fs k).params.toNat) args) : FrsG fs (mem ++ locals fs k args) .run (⟨why, k, 0, mem.length, [], [], 0⟩ :: frs) := by
  have hal := hty.len
  rw [List.length_take] at hal
  have hp0 := hf.p0
  have hp1 := hf.p1
  refine ⟨⟨hk, hy, isW_zero, Nat.zero_le _, fun j kk hj => ?_, fun d hd => by cases hd⟩, ⟨[], Int.le_refl _, .base, trivial⟩, hlen, hne, ?_⟩
  · have hjl := (List.getElem?_eq_some_iff.1 hj).1
    simp only at hj hjl ⊢
    rw [List.getElem?_append_right (by omega), Nat.add_sub_cancel_left]
    unfold locals
    by_cases hja : j < args.length
    · obtain ⟨v, hv, hK⟩ := hty.at_ (j := j) (k := kk) (by rw [List.getElem?_take_of_lt (by omega)]; exact hj)
      exact ⟨v, by rw [List.getElem?_append_left hja]; exact hv, by unfold kindsOf; exact hK.mono⟩
    · exact ⟨0, by rw [List.getElem?_append_right (by omega), List.getElem?_replicate, if_pos (by omega)], .zero⟩
  · have hnn : needOf fs ⟨why, k, 0, mem.length, [], [], 0⟩ = m := by rw [hm]; rfl
    rw [hnn]
    exact h.keep fun q hq => List.getElem?_append_left (by omega)
theorem FrsG.all : ∀ {m : Need} {frs : List Fr}, FrsG fs mem m frs → ∀ t ∈ frs, ∃ K, FrG fs mem K t
  | _, [], _, t, ht => by cases ht
  | m, u :: bl, ⟨h1, h2, h3, h4, h5⟩, t, ht => by
    rcases List.mem_cons.1 ht with rfl | ht
    · exact ⟨_, h1⟩
    · exact FrsG.all h5 t ht
theorem nds_le : ∀ {frs : List Fr} {t : Fr}, t ∈ frs → t.defs.length ≤ nds frs
  | [], t, h => by cases h
  | u :: bl, t, h => by
    unfold nds
    rcases List.mem_cons.1 h with rfl | h
    · omega
    · have := nds_le h
      omega
theorem kinds_le (hp : POk fs) : ∀ {m : Need} {frs : List Fr}, FrsG fs mem m frs → (kindsOf fs frs).length ≤ 16 * frs.length
  | _, [], _ => by simp [kindsOf]
  | m, t :: bl, ⟨h1, h2, h3, h4, h5⟩ => by
    have := kinds_le hp h5
    have := (hp.each _ (fnOf_mem h1.f)).loc
    rw [length_kinds, List.length_cons]
    omega
end
/-- what is kept -/
structure Good (fs : List Fn) (st : Mc) : Prop where
  frs : FrsG fs st.mem (if st.doing = 0 then .run else .free) st.frames
  mem : st.mem.length = (kindsOf fs st.frames).length
  ne : st.doing ≠ 3 → st.frames ≠ []
  pans : st.doing ≠ 3 → st.panics.length = n3 st.frames + (if st.doing = 2 then 1 else 0)
  panw : ∀ p ∈ st.panics, isW p.1
  wait : st.waiting = nds st.frames
  tape : ∀ v ∈ st.tape, isW v
  doing : st.doing = 0 ∨ st.doing = 1 ∨ st.doing = 2 ∨ st.doing = 3
  s1 : st.frames.length ≤ st.steps + (if st.doing = 0 then 1 else 0)
  s2 : st.depth ≤ st.steps + 1
  s3 : st.panics.length ≤ st.steps
  s4 : st.evs.length ≤ st.steps
  s5 : st.waiting ≤ st.steps
  s6 : st.defers ≤ st.steps
  s7 : st.maxp ≤ st.steps
section
variable {fs : List Fn} {st st1 : Mc} {t t2 : Fr} {bl : List Fr}
theorem Good.rndF (hp : POk fs) (h : Good fs st) (hs : st.steps ≤ 1000001) : RndF fs st := by
  have hk := kinds_le hp h.frs
  have h1 := h.s1
  have h1' : st.frames.length ≤ st.steps + 1 := by split at h1 <;> omega
  have h2 := h.s2
  have h3 := h.s3
  have h4 := h.s4
  have h5 := h.s5
  have hm := h.mem
  unfold RndF
  refine ⟨by omega, by omega, by omega, by omega, by omega, by omega, fun t ht => ?_, fun f hf => ?_⟩
  · obtain ⟨K, hF⟩ := h.frs.all t ht
    have h6 := nds_le ht
    have h7 := h.wait
    have h8 := hF.stk
    refine ⟨hF.why, hF.f, by omega, by omega, fun d hd => ?_⟩
    obtain ⟨d1, d2⟩ := hF.defs d hd
    have := hp.len
    have h9 := d2.len
    rw [List.length_take] at h9
    exact ⟨by omega, d1, by omega⟩
  · have := (hp.each f hf).loc
    have := (hp.each f hf).k1
    exact ⟨by omega, by omega⟩
theorem begin_good {why k : Nat} {args : List Int} (hp : POk fs) {m : Need} (hfr : FrsG fs st.mem m st.frames) (hm : m = if why = 1 then .res (fnOf fs k).result else .free) (hmem : st.mem.length = (kindsOf fs st.frames).length) (hne : st.frames = [] → why = 0) (hk : k < fs.length) (hy : why ≤ 3)
    (hty : Ty (kindsOf fs st.frames) ((fnOf fs k).locals.take (fnOf fs k).params.toNat) args) (hpan : st.panics.length = n3 st.frames + (if why = 3 then 1 else 0)) (panw : ∀ p ∈ st.panics, isW p.1) (wait : st.waiting = nds st.frames) (tape : ∀ v ∈ st.tape, isW v)
    (s1 : st.frames.length ≤ st.steps) (s2 : st.depth ≤ st.steps + 1) (s3 : st.panics.length ≤ st.steps) (s4 : st.evs.length ≤ st.steps) (s5 : st.waiting ≤ st.steps) (s6 : st.defers ≤ st.steps) (s7 : st.maxp ≤ st.steps) : Good fs (st.begin fs why k args) := by
  have hf := hp.each _ (fnOf_mem hk)
  have hal := hty.len
  rw [List.length_take] at hal
  have hp0 := hf.p0
  have hp1 := hf.p1
  refine ⟨FrsG.begin hfr hm hmem hk hf hy hne hty, ?_, fun _ => (by simp [Mc.begin]), fun _ => ?_, panw, ?_, tape, .inl rfl, ?_, ?_, s3, s4, s5, s6, s7⟩
  · show (st.mem ++ locals fs k args).length = (kindsOf fs (_ :: st.frames)).length
    rw [length_kinds, List.length_append, hmem]
    unfold locals
    rw [List.length_append, List.length_replicate]
    show _ = _ + (fnOf fs k).locals.length
    omega
  · show st.panics.length = n3 (⟨why, k, 0, st.mem.length, [], [], 0⟩ :: st.frames) + (if (0 : Int) = 2 then 1 else 0)
    rw [hpan, n3, if_neg (show ¬ ((0 : Int) = 2) by omega)]
    show _ = (if why = 3 then 1 else 0) + n3 st.frames + 0
    omega
  · show st.waiting = nds (⟨why, k, 0, st.mem.length, [], [], 0⟩ :: st.frames)
    rw [wait, nds]
    show _ = 0 + nds st.frames
    omega
  · show (_ :: st.frames).length ≤ st.steps + (if (0 : Int) = 0 then 1 else 0)
    rw [if_pos rfl, List.length_cons]
    omega
  · show max st.depth (st.frames.length + 1) ≤ st.steps + 1
    omega
end
end Go.Proofs.Ytdoabcmfblmklaa

/-
  Package sem: what settle does in a run of a program that obeys the rules.
-/
namespace Go.Proofs.Ytdoabcmfblmklaa
set_option linter.unusedVariables false
set_option linter.unusedSimpArgs false

section
variable {fs : List Fn} {st st1 : Mc} {t t2 : Fr} {bl : List Fr}
theorem needOf_free (h : t.why ≠ 1) : needOf fs t = .free := by unfold needOf; rw [if_neg h]
theorem kept_good (hp : POk fs) {K mem : List Int} (h : FrG fs mem K t) : ∃ v, kept fs mem t = some v ∧ isW v := by
  have hf := hp.each _ (fnOf_mem h.f)
  unfold kept
  by_cases hk : (fnOf fs t.f).keep < 0
  · rw [if_pos hk]
    exact ⟨0, rfl, isW_zero⟩
  · rw [if_neg hk]
    have hkb := hf.keep
    unfold keepsB at hkb
    rw [if_neg (by omega)] at hkb
    simp only [numL, Bool.and_eq_true, decide_eq_true_eq] at hkb
    obtain ⟨v, hv, hK⟩ := h.loc (fnOf fs t.f).keep.toNat _ (List.getElem?_eq_getElem (by omega))
    exact ⟨v, hv, hK.1⟩
theorem settle1_good (hp : POk fs) (h : Good fs st) (hd : st.doing = 1 ∨ st.doing = 2) :
    ∃ st', settle1 fs st = some st' ∧ Good fs st' ∧ st'.steps = st.steps ∧ (st'.doing = 0 ∨ st'.doing = 3 ∨ (st'.doing = 1 ∨ st'.doing = 2) ∧ st'.frames.length < st.frames.length) := by
  obtain ⟨tape, evs, frames, mem, panics, waiting, doing, endk, endv, steps, depth, defers, maxp⟩ := st
  obtain ⟨g1, g2, g3, g4, g5, g6, g7, g8, s1, s2, s3, s4, s5, s6, s7⟩ := h
  simp only at hd g1 g2 g3 g4 g5 g6 g7 g8 s1 s2 s3 s4 s5 s6 s7
  have hd0 : ¬ doing = 0 := by omega
  have hd3 : doing ≠ 3 := by omega
  rw [if_neg hd0] at g1 s1
  have g3 := g3 hd3
  have g4 := g4 hd3
  rcases frames with _ | ⟨t, bl⟩
  · exact absurd rfl g3
  have hG := g1
  obtain ⟨f1, f2, f3, f4, f5⟩ := g1
  have hkl := length_kinds fs t bl
  rcases hds : t.defs with _ | ⟨d, ds⟩
  · -- it is removed
    have hb : t.base ≤ mem.length := by omega
    have hpop := hG.pop
    have hml : (mem.take t.base).length = (kindsOf fs bl).length := by rw [List.length_take]; omega
    have hw : waiting = nds bl := by rw [g6, nds, hds]; simp
    have hn3 : n3 (t :: bl) = (if t.why = 3 then 1 else 0) + n3 bl := rfl
    simp only [List.length_cons] at s1
    by_cases h1 : doing = 1
    · subst h1
      rw [if_neg (by omega)] at g4
      by_cases y0 : t.why = 0
      · refine ⟨({ tape := tape, evs := evs, frames := bl, mem := mem.take t.base, panics := panics, waiting := waiting, doing := 1, endk := endk, endv := endv, steps := steps, depth := depth, defers := defers, maxp := maxp } : Mc).over 1 0, ?_, ?_, rfl, .inr (.inl rfl)⟩
        · simp [settle1, hds, hb, y0]
        · exact ⟨hpop.toFree, hml, fun h => absurd rfl h, fun h => absurd rfl h, g5, hw, g7, .inr (.inr (.inr rfl)), (by show bl.length ≤ steps + 0; omega), s2, s3, s4, s5, s6, s7⟩
      have hbl : bl ≠ [] := fun h => y0 (f4 h)
      rcases bl with _ | ⟨b, bl⟩
      · exact absurd rfl hbl
      by_cases y1 : t.why = 1
      · rw [needOf, if_pos y1] at hpop
        obtain ⟨p1, ⟨s, p2, p3, p4⟩, p5⟩ := hpop
        have hbs := (hp.each _ (fnOf_mem p1.f)).deep _ _ p3
        have hps := p4.len
        rw [List.length_reverse] at hps
        rw [List.length_append] at hbs
        have hb3 : n3 (t :: b :: bl) = n3 (b :: bl) := by rw [hn3, if_neg (by omega)]; omega
        obtain ⟨u, hu, q1, q2, q3, q4⟩ : ∃ u, (if (fnOf fs t.f).result = true then b.push t.number else b) = u ∧ FrsG fs (mem.take t.base) .run (u :: bl) ∧ u.why = b.why ∧ u.defs = b.defs ∧ u.f = b.f := by
          by_cases hr : (fnOf fs t.f).result = true
          · rw [if_pos hr]
            rw [if_pos hr] at p3
            refine ⟨_, rfl, FrsG.top (m := .res (fnOf fs t.f).result) ⟨p1, ⟨s, p2, by rw [if_pos hr]; exact p3, p4⟩, p5⟩ rfl rfl rfl p1.num (by show b.stack.length + 1 ≤ 18; omega) p1.defs ⟨s ++ [0], p2, p3, ?_⟩, rfl, rfl, rfl⟩
            rw [List.reverse_append]
            exact ⟨.num f1.num, p4⟩
          · rw [if_neg hr]
            rw [if_neg hr, List.append_nil] at p3
            exact ⟨_, rfl, ⟨p1, ⟨s, p2, p3, p4⟩, p5⟩, rfl, rfl, rfl⟩
        refine ⟨{ tape := tape, evs := evs, frames := u :: bl, mem := mem.take t.base, panics := panics, waiting := waiting, doing := 0, endk := endk, endv := endv, steps := steps, depth := depth, defers := defers, maxp := maxp }, ?_, ?_, rfl, .inl rfl⟩
        · simp [settle1, hds, hb, y0, y1, hu]
        · refine ⟨by rw [if_pos rfl]; exact q1, by show (mem.take t.base).length = (kindsOf fs (u :: bl)).length; rw [kinds_top q4]; exact hml, fun _ => by simp, fun _ => ?_, g5, ?_, g7, .inl rfl, by show (u :: bl).length ≤ steps + 1; simp only [List.length_cons] at s1 ⊢; omega, s2, s3, s4, s5, s6, s7⟩
          · show panics.length = n3 (u :: bl) + (if (0 : Int) = 2 then 1 else 0)
            rw [if_neg (by omega), n3, q2, g4, hb3, n3]
          · show waiting = nds (u :: bl)
            rw [nds, q3, hw, nds]
      have hfree := hpop
      rw [needOf_free y1] at hfree
      by_cases y2 : t.why = 2
      · refine ⟨{ tape := tape, evs := evs, frames := b :: bl, mem := mem.take t.base, panics := panics, waiting := waiting, doing := 1, endk := endk, endv := endv, steps := steps, depth := depth, defers := defers, maxp := maxp }, ?_, ?_, rfl, .inr (.inr ⟨.inl rfl, by simp⟩)⟩
        · simp [settle1, hds, hb, y0, y1, y2]
        · exact ⟨hfree, hml, fun _ => by simp, fun _ => by show panics.length = n3 (b :: bl) + 0; rw [g4, hn3, if_neg (by omega)]; omega, g5, hw, g7, .inr (.inl rfl), (by show (b :: bl).length ≤ steps + 0; omega), s2, s3, s4, s5, s6, s7⟩
      have y3 : t.why = 3 := by have := f1.why; omega
      rw [if_pos y3] at hn3
      rcases panics with _ | ⟨⟨v, r⟩, ps⟩
      · simp at g4; omega
      obtain ⟨p1, p2, p3, p4, p5⟩ := hfree
      cases r
      · refine ⟨{ tape := tape, evs := evs, frames := b :: bl, mem := mem.take t.base, panics := (v, false) :: ps, waiting := waiting, doing := 2, endk := endk, endv := endv, steps := steps, depth := depth, defers := defers, maxp := maxp }, ?_, ?_, rfl, .inr (.inr ⟨.inr rfl, by simp⟩)⟩
        · simp [settle1, hds, hb, y0, y1, y2]
        · exact ⟨⟨p1, p2, p3, p4, p5⟩, hml, fun _ => by simp, fun _ => by show ((v, false) :: ps).length = n3 (b :: bl) + 1; rw [g4, hn3]; omega, g5, hw, g7, .inr (.inr (.inl rfl)), (by show (b :: bl).length ≤ steps + 0; omega), s2, s3, s4, s5, s6, s7⟩
      · obtain ⟨x, hx, hxw⟩ := kept_good hp p1
        refine ⟨{ tape := tape, evs := evs, frames := { b with number := x } :: bl, mem := mem.take t.base, panics := ps, waiting := waiting, doing := 1, endk := endk, endv := endv, steps := steps, depth := depth, defers := defers, maxp := maxp }, ?_, ?_, rfl, .inr (.inr ⟨.inl rfl, by simp⟩)⟩
        · simp [settle1, hds, hb, y0, y1, y2, hx]
        · refine ⟨FrsG.top (m := .free) ⟨p1, p2, p3, p4, p5⟩ rfl rfl rfl hxw p1.stk p1.defs trivial, hml, fun _ => by simp, fun _ => ?_, fun p hp => g5 p (by simp [hp]), hw, g7, .inr (.inl rfl), (by show (_ :: bl).length ≤ steps + 0; simp only [List.length_cons] at s1 ⊢; omega), s2, (by simp at s3; show ps.length ≤ steps; omega), s4, s5, s6, s7⟩
          show ps.length = n3 ({ b with number := x } :: bl) + 0
          have e1 : n3 ({ b with number := x } :: bl) = n3 (b :: bl) := rfl
          simp only [List.length_cons] at g4
          rw [e1]
          omega
    · have h2 : doing = 2 := by omega
      subst h2
      rw [if_pos rfl] at g4
      have key : ∀ ps : List (Int × Bool), (bl = [] → ∀ v r ps', ps = (v, r) :: ps' → settle1 fs ⟨tape, evs, t :: bl, mem, panics, waiting, 2, endk, endv, steps, depth, defers, maxp⟩ = some ((⟨tape, evs, [], mem.take t.base, ps, waiting, 2, endk, endv, steps, depth, defers, maxp⟩ : Mc).over 2 v)) →
          (bl ≠ [] → settle1 fs ⟨tape, evs, t :: bl, mem, panics, waiting, 2, endk, endv, steps, depth, defers, maxp⟩ = some ⟨tape, evs, bl, mem.take t.base, ps, waiting, 2, endk, endv, steps, depth, defers, maxp⟩) → ps.length = n3 bl + 1 → (∀ p ∈ ps, isW p.1) → ps.length ≤ steps →
          ∃ st', settle1 fs ⟨tape, evs, t :: bl, mem, panics, waiting, 2, endk, endv, steps, depth, defers, maxp⟩ = some st' ∧ Good fs st' ∧ st'.steps = steps ∧ (st'.doing = 0 ∨ st'.doing = 3 ∨ (st'.doing = 1 ∨ st'.doing = 2) ∧ st'.frames.length < (t :: bl).length) := by
        intro ps hs0 hs1 hpl hpw hpx
        have hfree := hpop.toFree
        rcases bl with _ | ⟨b, bl⟩
        · rcases ps with _ | ⟨⟨v, r⟩, ps⟩
          · simp at hpl
          exact ⟨_, hs0 rfl v r ps rfl, ⟨hfree, hml, fun h => absurd rfl h, fun h => absurd rfl h, hpw, hw, g7, .inr (.inr (.inr rfl)), (by show 0 ≤ steps + 0; omega), s2, hpx, s4, s5, s6, s7⟩, rfl, .inr (.inl rfl)⟩
        · exact ⟨_, hs1 (by simp), ⟨hfree, hml, fun _ => by simp, fun _ => hpl, hpw, hw, g7, .inr (.inr (.inl rfl)), (by show (b :: bl).length ≤ steps + 0; omega), s2, hpx, s4, s5, s6, s7⟩, rfl, .inr (.inr ⟨.inr rfl, by simp⟩)⟩
      by_cases y3 : t.why = 3
      · rw [hn3, if_pos y3] at g4
        rcases panics with _ | ⟨p, _ | ⟨q, ps⟩⟩
        · simp at g4
        · simp at g4
        · simp only [List.length_cons] at g4 s3
          refine key (p :: ps) (fun hb0 v r ps' he => ?_) (fun hb0 => ?_) (by simp only [List.length_cons]; omega) (fun x hx => g5 x (by rcases List.mem_cons.1 hx with rfl | hx <;> simp [*])) (by simp only [List.length_cons]; omega)
          · subst hb0
            simp at he
            simp [settle1, hds, hb, y3, he.1]
          · rcases bl with _ | ⟨b, bl⟩
            · exact absurd rfl hb0
            · simp [settle1, hds, hb, y3]
      · rw [hn3, if_neg y3] at g4
        refine key panics (fun hb0 v r ps' he => ?_) (fun hb0 => ?_) (by omega) g5 s3
        · subst hb0
          simp [settle1, hds, hb, y3, he]
        · rcases bl with _ | ⟨b, bl⟩
          · exact absurd rfl hb0
          · simp [settle1, hds, hb, y3]
  · -- a deferred call
    have hdm : d ∈ t.defs := by rw [hds]; simp
    obtain ⟨d1, d2⟩ := f1.defs d hdm
    have hwt : waiting = ds.length + 1 + nds bl := by rw [g6, nds, hds, List.length_cons]
    refine ⟨({ tape := tape, evs := evs, frames := { t with defs := ds } :: bl, mem := mem, panics := panics, waiting := waiting - 1, doing := doing, endk := endk, endv := endv, steps := steps, depth := depth, defers := defers, maxp := maxp } : Mc).begin fs (if doing = 1 then 2 else 3) d.fn d.args, ?_, ?_, rfl, .inl rfl⟩
    · have h0 : d.fn < fs.length ∧ 0 < waiting := ⟨d1, by omega⟩
      simp only [settle1, hds]
      rw [if_pos h0]
      rfl
    · refine begin_good (m := .free) hp (FrsG.top hG rfl rfl rfl f1.num f1.stk (fun x hx => f1.defs x (by rw [hds]; simp [hx])) trivial) ?_ g2 (fun h => by simp at h) d1 ?_ d2 ?_ g5 ?_ g7 (by simp only [List.length_cons] at s1 ⊢; omega) s2 s3 s4 (by show waiting - 1 ≤ steps; omega) s6 s7
      · split <;> rfl
      · split <;> omega
      · show panics.length = n3 ({ t with defs := ds } :: bl) + _
        have e1 : n3 ({ t with defs := ds } :: bl) = n3 (t :: bl) := rfl
        rw [e1, g4]
        rcases hd with rfl | rfl
        · simp
        · simp
      · show waiting - 1 = nds ({ t with defs := ds } :: bl)
        rw [nds]
        show waiting - 1 = ds.length + nds bl
        omega
theorem settle_good {rs : List Raw} (hp : POk (fns rs)) : ∀ (n : Nat) (st : Mc), st.frames.length ≤ n → Good (fns rs) st → st.steps ≤ 1000001 → ∃ N st', settle (fns rs) N st = some st' ∧ Rnds rs N st ∧ Good (fns rs) st' ∧ st'.steps = st.steps ∧ (st'.doing = 0 ∨ st'.doing = 3)
  | n, st, hl, h, hs => by
    by_cases hd : st.doing = 1 ∨ st.doing = 2
    · obtain ⟨st', e1, e2, e3, e4⟩ := settle1_good hp h hd
      have hR := (h.rndF hp hs).rnd
      have fin : ∀ N st2, settle (fns rs) N st' = some st2 → Rnds rs N st' → settle (fns rs) (N + 1) st = some st2 ∧ Rnds rs (N + 1) st := by
        intro N st2 h1 h2
        refine ⟨?_, hR, fun x hx => ?_⟩
        · unfold settle
          rw [if_pos hd, e1]
          exact h1
        · rw [e1] at hx
          injection hx with hx
          subst hx
          exact h2
      have stop : st'.doing = 0 ∨ st'.doing = 3 → ∃ N st2, settle (fns rs) N st = some st2 ∧ Rnds rs N st ∧ Good (fns rs) st2 ∧ st2.steps = st.steps ∧ (st2.doing = 0 ∨ st2.doing = 3) := by
        intro h0
        have h1 : settle (fns rs) 1 st' = some st' := by unfold settle; rw [if_neg (by omega)]
        obtain ⟨h2, h3⟩ := fin 1 st' h1 ⟨(e2.rndF hp (by omega)).rnd, fun _ _ => trivial⟩
        exact ⟨2, st', h2, h3, e2, e3, h0⟩
      rcases e4 with h0 | h0 | ⟨h0, hlt⟩
      · exact stop (.inl h0)
      · exact stop (.inr h0)
      · cases n with
        | zero => omega
        | succ n =>
          obtain ⟨N, st2, a1, a2, a3, a4, a5⟩ := settle_good hp n st' (by omega) e2 (by omega)
          obtain ⟨h2, h3⟩ := fin N st2 a1 a2
          exact ⟨N + 1, st2, h2, h3, a3, by omega, a5⟩
    · exact ⟨1, st, by unfold settle; rw [if_neg hd], ⟨(h.rndF hp hs).rnd, fun _ _ => trivial⟩, h, rfl, by have := h.doing; omega⟩
end
end Go.Proofs.Ytdoabcmfblmklaa

/-
  Package sem: what an instruction does in a run of a program that obeys the rules.
-/
namespace Go.Proofs.Ytdoabcmfblmklaa
set_option linter.unusedVariables false
set_option linter.unusedSimpArgs false

/-- an instruction that is reached: what it takes lies on the stack -/
structure Node (fs : List Fn) (K : List Int) (t : Fr) (i : Ins) (s0 s v1 v2 : List Int) : Prop where
  nx : 0 ≤ t.next
  code : (fnOf fs t.f).code[t.next.toNat]? = some i
  ok : okI i = true
  ref : insRef fs (fnOf fs t.f) i = true
  reach : ∀ n2 : Int, n2.toNat ∈ succK t.next.toNat i → Reach fs (fnOf fs t.f) n2.toNat (s0 ++ leavesK fs (fnOf fs t.f) i (topK s))
  stk : t.stack = v1 ++ v2
  ty1 : Ty K (takesK fs (fnOf fs t.f) i (topK s)).reverse v1
  ty2 : Ty K s0.reverse v2
  top : s = s0 ++ takesK fs (fnOf fs t.f) i (topK s)
  len : t.stack.length ≤ 16
def XG (fs : List Fn) (st : Mc) (t : Fr) (bl : List Fr) (i : Ins) : Prop := ∃ st1, exec fs { st with steps := st.steps + 1 } { t with next := t.next + 1 } bl i = some st1 ∧ Good fs st1 ∧ st1.steps = st.steps + 1
section
variable {fs : List Fn} {st st1 : Mc} {t t2 : Fr} {bl : List Fr} {K : List Int} {i : Ins} {s0 s v1 v2 nv : List Int} {op a m : Int}
theorem node_at (hp : POk fs) (h : Good fs st) (hd : st.doing = 0) (hf : st.frames = t :: bl) : ∃ i s0 s v1 v2, Node fs (kindsOf fs (t :: bl)) t i s0 s v1 v2 := by
  have h1 := h.frs
  rw [hf, if_pos hd] at h1
  obtain ⟨f1, ⟨s, n1, n2, n3⟩, f3, f4, f5⟩ := h1
  have hF := hp.each _ (fnOf_mem f1.f)
  obtain ⟨⟨i, s', hi, hs⟩, _⟩ := hF.fine _ _ n2
  obtain ⟨s0, e1, e2⟩ := afterK_split hs
  have hdp := hF.deep _ _ n2
  have hl := n3.len
  rw [List.length_reverse] at hl
  have n3' := n3
  rw [e1, List.reverse_append] at n3'
  obtain ⟨v1, v2, e3, t1, t2⟩ := n3'.split
  have hm := List.mem_of_getElem? hi
  exact ⟨i, s0, s, v1, v2, n1, hi, hF.ok i hm, hF.ref i hm, fun k hk => by rw [← e2]; exact .step n2 hi hs hk, e3, t1, t2, e1, by omega⟩
theorem Node.go (hN : Node fs K t i s0 s v1 v2) (hp : POk fs) (ht : t.f < fs.length) (hf : t2.f = t.f) (h0 : 0 ≤ t2.next) (hs : t2.next.toNat ∈ succK t.next.toNat i) (hst : t2.stack = nv ++ v2) (hty : Ty K (leavesK fs (fnOf fs t.f) i (topK s)).reverse nv) :
    NeedOK fs K t2 .run ∧ t2.stack.length ≤ 18 := by
  have hr := hN.reach _ hs
  have hl := (hp.each _ (fnOf_mem ht)).deep _ _ hr
  have h1 := hty.append hN.ty2
  have h2 := h1.len
  simp only [List.length_append, List.length_reverse] at h2 hl
  refine ⟨⟨_, h0, by rw [hf]; exact hr, by rw [List.reverse_append, hst]; exact h1⟩, ?_⟩
  rw [hst, List.length_append]
  omega
theorem ok_facts (h : okI i = true) : 0 ≤ i.arg ∧ i.arg < 65536 ∧ isW i.imm ∧ 1 ≤ i.op ∧ i.op ≤ 32 := by
  simp only [okI, opB, fitB, Bool.and_eq_true, decide_eq_true_eq] at h
  obtain ⟨⟨h1, h2⟩, h3⟩ := h
  have a1 := argW_le i.op
  have a2 := immW_le i.op
  have b1 : (256 : Int) ^ argW i.op ≤ 65536 := by
    rcases (show argW i.op = 0 ∨ argW i.op = 1 ∨ argW i.op = 2 by omega) with h | h | h <;> rw [h] <;> decide
  have b2 : (256 : Int) ^ immW i.op ≤ 18446744073709551616 := by
    unfold immW
    split <;> decide
  unfold isW
  exact ⟨h2.1, by omega, ⟨h3.1, by omega⟩, h1.1, h1.2⟩
theorem good_next (h : Good fs st) (hd : st.doing = 0) (hf : st.frames = t :: bl) {mem2 tape2 : List Int} {ev2 : List (Int × Int)} {pan2 : List (Int × Bool)} (hfr : FrsG fs mem2 .run (t2 :: bl)) (e1 : t2.f = t.f) (e2 : t2.why = t.why) (e3 : t2.defs = t.defs) (hml : mem2.length = st.mem.length)
    (hpan : pan2.length = st.panics.length) (hpw : ∀ p ∈ pan2, isW p.1) (htape : ∀ v ∈ tape2, isW v) (hev : ev2.length ≤ st.evs.length + 1) :
    Good fs { st with steps := st.steps + 1, frames := t2 :: bl, mem := mem2, tape := tape2, evs := ev2, panics := pan2 } := by
  obtain ⟨g1, g2, g3, g4, g5, g6, g7, g8, s1, s2, s3, s4, s5, s6, s7⟩ := h
  have g4 := g4 (by omega)
  rw [hf] at g2 g4 g6 s1
  rw [hd] at g4 s1
  rw [if_neg (by omega)] at g4
  rw [if_pos rfl] at s1
  refine ⟨by show FrsG fs mem2 (if st.doing = 0 then .run else .free) (t2 :: bl); rw [if_pos hd]; exact hfr, by show mem2.length = (kindsOf fs (t2 :: bl)).length; rw [hml, kinds_top e1]; exact g2, fun _ => by simp, fun _ => ?_, hpw, ?_, htape, .inl hd, ?_, ?_, ?_, ?_, ?_, ?_, ?_⟩
  · show pan2.length = n3 (t2 :: bl) + (if st.doing = 2 then 1 else 0)
    rw [hpan, if_neg (by omega), g4, n3, n3, e2]
  · show st.waiting = nds (t2 :: bl)
    rw [g6, nds, nds, e3]
  · show (t2 :: bl).length ≤ st.steps + 1 + (if st.doing = 0 then 1 else 0)
    rw [if_pos hd]
    simp only [List.length_cons] at s1 ⊢
    omega
  · show st.depth ≤ st.steps + 1 + 1
    omega
  · show pan2.length ≤ st.steps + 1
    omega
  · show ev2.length ≤ st.steps + 1
    omega
  · show st.waiting ≤ st.steps + 1
    omega
  · show st.defers ≤ st.steps + 1
    omega
  · show st.maxp ≤ st.steps + 1
    omega
theorem good_raise (h : Good fs st) (hd : st.doing = 0) (hf : st.frames = t :: bl) (v : Int) (hv : isW v) (e1 : t2.f = t.f) (e0 : t2.base = t.base) (e2 : t2.why = t.why) (e3 : t2.defs = t.defs) (e4 : t2.number = t.number) (hl : t2.stack.length ≤ 18) :
    Good fs (({ st with steps := st.steps + 1 } : Mc).top t2 bl |>.raise v) := by
  obtain ⟨g1, g2, g3, g4, g5, g6, g7, g8, s1, s2, s3, s4, s5, s6, s7⟩ := h
  have g4 := g4 (by omega)
  rw [hf] at g1 g2 g4 g6 s1
  rw [hd] at g4 s1
  rw [if_neg (by omega)] at g4
  rw [if_pos rfl] at s1
  have f1 := g1.1
  refine ⟨FrsG.top g1 e1 e0 e2 (by rw [e4]; exact f1.num) hl (by rw [e3]; exact f1.defs) trivial, by show st.mem.length = (kindsOf fs (t2 :: bl)).length; rw [kinds_top e1]; exact g2, fun _ => (by show t2 :: bl ≠ []; simp), fun _ => ?_, fun p hp => ?_, ?_, g7, .inr (.inr (.inl rfl)), ?_, ?_, ?_, ?_, ?_, ?_, ?_⟩
  · show ((v, false) :: st.panics).length = n3 (t2 :: bl) + 1
    rw [List.length_cons, g4, n3, n3, e2]
  · rcases List.mem_cons.1 (show p ∈ (v, false) :: st.panics from hp) with rfl | hp
    · exact hv
    · exact g5 p hp
  · show st.waiting = nds (t2 :: bl)
    rw [g6, nds, nds, e3]
  · show (t2 :: bl).length ≤ st.steps + 1 + 0
    simp only [List.length_cons] at s1 ⊢
    omega
  · show st.depth ≤ st.steps + 1 + 1
    omega
  · show ((v, false) :: st.panics).length ≤ st.steps + 1
    rw [List.length_cons]
    omega
  · show st.evs.length ≤ st.steps + 1
    omega
  · show st.waiting ≤ st.steps + 1
    omega
  · show st.defers ≤ st.steps + 1
    omega
  · show max st.maxp (st.panics.length + 1) ≤ st.steps + 1
    omega
theorem good_end (h : Good fs st) (hd : st.doing = 0) (hf : st.frames = t :: bl) (k ek ev : Int) (hk : k = 1 ∨ k = 3) (e1 : t2.f = t.f) (e0 : t2.base = t.base) (e2 : t2.why = t.why) (e3 : t2.defs = t.defs) (e4 : isW t2.number) (hl : t2.stack.length ≤ 18) :
    Good fs { st with steps := st.steps + 1, frames := t2 :: bl, doing := k, endk := ek, endv := ev } := by
  obtain ⟨g1, g2, g3, g4, g5, g6, g7, g8, s1, s2, s3, s4, s5, s6, s7⟩ := h
  have g4 := g4 (by omega)
  rw [hf] at g1 g2 g4 g6 s1
  rw [hd] at g4 s1
  rw [if_neg (by omega)] at g4
  rw [if_pos rfl] at s1
  have f1 := g1.1
  refine ⟨by show FrsG fs st.mem (if k = 0 then .run else .free) (t2 :: bl); rw [if_neg (by omega)]; exact FrsG.top g1 e1 e0 e2 e4 hl (by rw [e3]; exact f1.defs) trivial, by show st.mem.length = (kindsOf fs (t2 :: bl)).length; rw [kinds_top e1]; exact g2, fun _ => (by show t2 :: bl ≠ []; simp), fun _ => ?_, g5, ?_, g7, by show k = 0 ∨ k = 1 ∨ k = 2 ∨ k = 3; omega, ?_, ?_, ?_, ?_, ?_, ?_, ?_⟩
  · show st.panics.length = n3 (t2 :: bl) + (if k = 2 then 1 else 0)
    rw [if_neg (by omega), g4, n3, n3, e2]
  · show st.waiting = nds (t2 :: bl)
    rw [g6, nds, nds, e3]
  · show (t2 :: bl).length ≤ st.steps + 1 + (if k = 0 then 1 else 0)
    simp only [List.length_cons] at s1 ⊢
    omega
  · show st.depth ≤ st.steps + 1 + 1
    omega
  · show st.panics.length ≤ st.steps + 1
    omega
  · show st.evs.length ≤ st.steps + 1
    omega
  · show st.waiting ≤ st.steps + 1
    omega
  · show st.defers ≤ st.steps + 1
    omega
  · show st.maxp ≤ st.steps + 1
    omega
theorem next_nat (h : 0 ≤ t.next) : (t.next + 1).toNat = t.next.toNat + 1 := by omega
/-- a frame that goes on, its memory as it was -/
theorem good_go (hp : POk fs) (h : Good fs st) (hd : st.doing = 0) (hf : st.frames = t :: bl) (hN : Node fs (kindsOf fs (t :: bl)) t i s0 s v1 v2) (n2 : Int) (h0 : 0 ≤ n2) (hs : n2.toNat ∈ succK t.next.toNat i) (hty : Ty (kindsOf fs (t :: bl)) (leavesK fs (fnOf fs t.f) i (topK s)).reverse nv)
    {tape2 : List Int} {ev2 : List (Int × Int)} {pan2 : List (Int × Bool)} (hpan : pan2.length = st.panics.length) (hpw : ∀ p ∈ pan2, isW p.1) (htape : ∀ v ∈ tape2, isW v) (hev : ev2.length ≤ st.evs.length + 1) :
    Good fs { st with steps := st.steps + 1, frames := { t with next := n2, stack := nv ++ v2 } :: bl, tape := tape2, evs := ev2, panics := pan2 } := by
  have g1 := h.frs
  rw [hf, if_pos hd] at g1
  have f1 := g1.1
  obtain ⟨n1, n3⟩ := hN.go (t2 := { t with next := n2, stack := nv ++ v2 }) hp f1.f rfl h0 hs rfl hty
  exact good_next h hd hf (FrsG.top g1 rfl rfl rfl f1.num n3 f1.defs n1) rfl rfl rfl rfl hpan hpw htape hev
theorem succ_next (h : 0 ≤ t.next) (h21 : i.op ≠ 21) (h24 : i.op ≠ 24) (h26 : i.op ≠ 26) (h30 : i.op ≠ 30) : (t.next + 1).toNat ∈ succK t.next.toNat i := by
  unfold succK
  rw [if_neg h21, next_nat h]
  split
  · simp
  · rw [if_neg (by omega)]
    simp
theorem x_plain (hp : POk fs) (h : Good fs st) (hd : st.doing = 0) (hf : st.frames = t :: bl) (hN : Node fs (kindsOf fs (t :: bl)) t i s0 s v1 v2) (h21 : i.op ≠ 21) (h24 : i.op ≠ 24) (h26 : i.op ≠ 26) (h30 : i.op ≠ 30) (nv : List Int) (hty : Ty (kindsOf fs (t :: bl)) (leavesK fs (fnOf fs t.f) i (topK s)).reverse nv)
    (hx : exec fs { st with steps := st.steps + 1 } { t with next := t.next + 1 } bl i = some ({ st with steps := st.steps + 1, frames := { t with next := t.next + 1, stack := nv ++ v2 } :: bl } : Mc)) : XG fs st t bl i :=
  ⟨_, hx, good_go hp h hd hf hN (t.next + 1) (by have := hN.nx; omega) (succ_next hN.nx h21 h24 h26 h30) hty rfl h.panw h.tape (by omega), rfl⟩
end
end Go.Proofs.Ytdoabcmfblmklaa

/-
  Package sem: each operation, in a run of a program that obeys the rules.
-/
namespace Go.Proofs.Ytdoabcmfblmklaa
set_option linter.unusedVariables false
set_option linter.unusedSimpArgs false

section
variable {fs : List Fn} {st st1 : Mc} {t t2 : Fr} {bl : List Fr} {K : List Int} {i : Ins} {s0 s v1 v2 nv : List Int} {op a m : Int}
theorem ty_of {ks vs : List Int} {ks' : List Int} (h : Ty K ks vs) (e : ks = ks') : Ty K ks' vs := e ▸ h
theorem x_const (hp : POk fs) (h : Good fs st) (hd : st.doing = 0) (hf : st.frames = t :: bl) (hN : Node fs (kindsOf fs (t :: bl)) t ⟨1, a, m⟩ s0 s v1 v2) : XG fs st t bl ⟨1, a, m⟩ := by
  obtain rfl := Ty.nil (ty_of hN.ty1 (by simp [takesK] : _ = []))
  have hs := hN.stk
  refine x_plain hp h hd hf hN (by show (1 : Int) ≠ 21; decide) (by show (1 : Int) ≠ 24; decide) (by show (1 : Int) ≠ 26; decide) (by show (1 : Int) ≠ 30; decide) [m] ?_ ?_
  · simp only [leavesK, true_or, if_true, List.reverse_cons, List.reverse_nil, List.nil_append]
    exact ⟨.num (ok_facts hN.ok).2.2.1, trivial⟩
  · simp [exec, Mc.top, Fr.push, hs]
theorem x_get (hp : POk fs) (h : Good fs st) (hd : st.doing = 0) (hf : st.frames = t :: bl) (hN : Node fs (kindsOf fs (t :: bl)) t ⟨2, a, m⟩ s0 s v1 v2) : XG fs st t bl ⟨2, a, m⟩ := by
  obtain rfl := Ty.nil (ty_of hN.ty1 (by simp [takesK] : _ = []))
  have hs := hN.stk
  have hr := hN.ref
  have h0 : 0 ≤ a := (ok_facts hN.ok).1
  simp only [insRef, true_or, if_true, decide_eq_true_eq] at hr
  have g1 := h.frs
  rw [hf, if_pos hd] at g1
  have hj : (fnOf fs t.f).locals[a.toNat]? = some (locK (fnOf fs t.f) ⟨2, a, m⟩) := by
    unfold locK
    rw [List.getD_eq_getElem?_getD, List.getElem?_eq_getElem (show a.toNat < _ by omega)]
    rfl
  obtain ⟨v, hv, hK⟩ := g1.1.loc _ _ hj
  refine x_plain hp h hd hf hN (by show (2 : Int) ≠ 21; decide) (by show (2 : Int) ≠ 24; decide) (by show (2 : Int) ≠ 26; decide) (by show (2 : Int) ≠ 30; decide) [v] ?_ ?_
  · simp [leavesK]
    exact ⟨hK, trivial⟩
  · simp [exec, Mc.top, Fr.push, hs, hv]
theorem x_set (hp : POk fs) (h : Good fs st) (hd : st.doing = 0) (hf : st.frames = t :: bl) (hN : Node fs (kindsOf fs (t :: bl)) t ⟨3, a, m⟩ s0 s v1 v2) : XG fs st t bl ⟨3, a, m⟩ := by
  obtain ⟨v, rfl, hv⟩ := Ty.one (ty_of hN.ty1 (by simp [takesK] : _ = [locK (fnOf fs t.f) ⟨3, a, m⟩]))
  have hs := hN.stk
  have hr := hN.ref
  have h0 : 0 ≤ a := (ok_facts hN.ok).1
  simp only [insRef, true_or, or_true, if_true, decide_eq_true_eq] at hr
  have g1 := h.frs
  rw [hf, if_pos hd] at g1
  have hj : (fnOf fs t.f).locals[a.toNat]? = some (locK (fnOf fs t.f) ⟨3, a, m⟩) := by
    unfold locK
    rw [List.getD_eq_getElem?_getD, List.getElem?_eq_getElem (show a.toNat < _ by omega)]
    rfl
  obtain ⟨u, hu, _⟩ := g1.1.loc _ _ hj
  have hlt := (List.getElem?_eq_some_iff.1 hu).1
  obtain ⟨n1, n3⟩ := hN.go (t2 := { t with next := t.next + 1, stack := v2 }) (nv := []) hp g1.1.f rfl (by show 0 ≤ t.next + 1; have := hN.nx; omega) (succ_next hN.nx (by show (3 : Int) ≠ 21; decide) (by show (3 : Int) ≠ 24; decide) (by show (3 : Int) ≠ 26; decide) (by show (3 : Int) ≠ 30; decide)) rfl (by simp [leavesK, Ty])
  refine ⟨_, ?_, good_next h hd hf (t2 := { t with next := t.next + 1, stack := v2 }) (mem2 := st.mem.set (t.base + a.toNat) v) (FrsG.top (g1.set_own hj hv) rfl rfl rfl g1.1.num n3 g1.1.defs n1) rfl rfl rfl (List.length_set ..) rfl h.panw h.tape (ev2 := st.evs) (by omega), rfl⟩
  simp [exec, Mc.top, hs, hlt]
theorem x_addr (hp : POk fs) (h : Good fs st) (hd : st.doing = 0) (hf : st.frames = t :: bl) (hs6 : st.steps ≤ 1000000) (hN : Node fs (kindsOf fs (t :: bl)) t ⟨4, a, m⟩ s0 s v1 v2) : XG fs st t bl ⟨4, a, m⟩ := by
  obtain rfl := Ty.nil (ty_of hN.ty1 (by simp [takesK] : _ = []))
  have hs := hN.stk
  have hr := hN.ref
  have h0 : 0 ≤ a := (ok_facts hN.ok).1
  simp [insRef, numL] at hr
  have g1 := h.frs
  rw [hf, if_pos hd] at g1
  have hb := g1.2.2.1
  have hj : (fnOf fs t.f).locals[a.toNat]? = some 0 := by
    have h2 := hr.2
    rw [List.getElem?_eq_getElem (show a.toNat < _ by omega)] at h2
    rw [List.getElem?_eq_getElem (show a.toNat < _ by omega)]
    simpa using h2
  have hkk := kinds_right (bl := bl) hj
  have hkl := (List.getElem?_eq_some_iff.1 hkk).1
  have hle := kinds_le hp g1
  have h1 := h.s1
  rw [hf, if_pos hd] at h1
  refine x_plain hp h hd hf hN (by show (4 : Int) ≠ 21; decide) (by show (4 : Int) ≠ 24; decide) (by show (4 : Int) ≠ 26; decide) (by show (4 : Int) ≠ 30; decide) [(t.base : Int) + a + 1] ?_ ?_
  · simp [leavesK]
    refine ⟨⟨by unfold isW; omega, fun _ => .inr ⟨by omega, ?_⟩⟩, trivial⟩
    rw [show ((t.base : Int) + a + 1 - 1).toNat = (kindsOf fs bl).length + a.toNat by omega]
    exact hkk
  · simp [exec, Mc.top, Fr.push, hs]
theorem ptr_at {p : Int} (h : Good fs st) (hp1 : KOk (kindsOf fs (t :: bl)) 1 p) (hf : st.frames = t :: bl) (hd : st.doing = 0) (hp0 : p ≠ 0) : (kindsOf fs (t :: bl))[(p - 1).toNat]? = some 0 ∧ (p - 1).toNat < st.mem.length := by
  obtain h1 | ⟨h1, h2⟩ := hp1.2 rfl
  · exact absurd h1 hp0
  · have hm := h.mem
    rw [hf] at hm
    exact ⟨h2, by rw [hm]; exact (List.getElem?_eq_some_iff.1 h2).1⟩
theorem mem_num : ∀ {mem : List Int} {m : Need} {frs : List Fr} {q : Nat} {k : Int}, FrsG fs mem m frs → (kindsOf fs frs)[q]? = some k → ∃ v, mem[q]? = some v ∧ isW v
  | mem, _, [], q, k, _, hk => by simp [kindsOf] at hk
  | mem, m, t :: bl, q, k, ⟨h1, h2, h3, h4, h5⟩, hk => by
    rcases Nat.lt_or_ge q (kindsOf fs bl).length with hq | hq
    · unfold kindsOf at hk
      rw [List.getElem?_append_left hq] at hk
      exact mem_num h5 hk
    · unfold kindsOf at hk
      rw [List.getElem?_append_right hq] at hk
      obtain ⟨v, hv, hK⟩ := h1.loc _ _ hk
      rw [show t.base + (q - (kindsOf fs bl).length) = q by omega] at hv
      exact ⟨v, hv, hK.1⟩
theorem isW_null : isW byNull := by unfold isW byNull; omega
theorem isW_byz : isW byZero := by unfold isW byZero; omega
theorem x_load (hp : POk fs) (h : Good fs st) (hd : st.doing = 0) (hf : st.frames = t :: bl) (hN : Node fs (kindsOf fs (t :: bl)) t ⟨5, a, m⟩ s0 s v1 v2) : XG fs st t bl ⟨5, a, m⟩ := by
  have hty := hN.ty1
  simp [takesK] at hty
  obtain ⟨p, rfl, hpk⟩ := Ty.one hty
  have hs := hN.stk
  have hl := hN.len
  rw [hs] at hl
  simp only [List.length_append, List.length_cons, List.length_nil] at hl
  by_cases h0 : p = 0
  · refine ⟨_, ?_, good_raise (t2 := { t with next := t.next + 1, stack := v2 }) h hd hf byNull isW_null rfl rfl rfl rfl rfl (by show v2.length ≤ 18; omega), rfl⟩
    simp [exec, hs, h0]
  · obtain ⟨hk, hlt⟩ := ptr_at h hpk hf hd h0
    have g1 := h.frs
    rw [hf] at g1
    obtain ⟨v, hv, hvw⟩ := mem_num g1 hk
    refine x_plain hp h hd hf hN (by show (5 : Int) ≠ 21; decide) (by show (5 : Int) ≠ 24; decide) (by show (5 : Int) ≠ 26; decide) (by show (5 : Int) ≠ 30; decide) [v] ?_ ?_
    · simp [leavesK]
      exact ⟨.num hvw, trivial⟩
    · have hv' : st.mem[p.toNat - 1]? = some v := by rw [show p.toNat - 1 = (p - 1).toNat by have := hpk.1.1; omega]; exact hv
      simp [exec, Mc.top, hs, h0, hv']
theorem x_store (hp : POk fs) (h : Good fs st) (hd : st.doing = 0) (hf : st.frames = t :: bl) (hN : Node fs (kindsOf fs (t :: bl)) t ⟨6, a, m⟩ s0 s v1 v2) : XG fs st t bl ⟨6, a, m⟩ := by
  have hty := hN.ty1
  simp [takesK] at hty
  obtain ⟨v, p, rfl, hvk, hpk⟩ := Ty.two hty
  have hs := hN.stk
  have hl := hN.len
  rw [hs] at hl
  simp only [List.length_append, List.length_cons, List.length_nil] at hl
  by_cases h0 : p = 0
  · refine ⟨_, ?_, good_raise (t2 := { t with next := t.next + 1, stack := v2 }) h hd hf byNull isW_null rfl rfl rfl rfl rfl (by show v2.length ≤ 18; omega), rfl⟩
    simp [exec, hs, h0]
  · obtain ⟨hk, hlt⟩ := ptr_at h hpk hf hd h0
    have g1 := h.frs
    rw [hf, if_pos hd] at g1
    obtain ⟨n1, n3⟩ := hN.go (t2 := { t with next := t.next + 1, stack := v2 }) (nv := []) hp g1.1.f rfl (by show 0 ≤ t.next + 1; have := hN.nx; omega) (succ_next hN.nx (by show (6 : Int) ≠ 21; decide) (by show (6 : Int) ≠ 24; decide) (by show (6 : Int) ≠ 26; decide) (by show (6 : Int) ≠ 30; decide)) rfl (by simp [leavesK, Ty])
    refine ⟨_, ?_, good_next h hd hf (t2 := { t with next := t.next + 1, stack := v2 }) (mem2 := st.mem.set (p - 1).toNat v) (FrsG.top (g1.set_num hvk.1 fun k hk' => by rw [hk] at hk'; injection hk' with hk'; exact hk'.symm) rfl rfl rfl g1.1.num n3 g1.1.defs n1) rfl rfl rfl (List.length_set ..) rfl h.panw h.tape (ev2 := st.evs) (by omega), rfl⟩
    simp only [exec, hs]
    rw [if_neg (by decide), if_neg (by decide), if_neg (by decide), if_neg (by decide), if_neg (by decide), if_pos trivial]
    simp only [List.cons_append, List.nil_append]
    rw [if_neg h0, if_pos hlt]
    rfl
theorem x_op (hp : POk fs) (h : Good fs st) (hd : st.doing = 0) (hf : st.frames = t :: bl) (h7 : 7 ≤ op) (h20 : op ≤ 20) (hN : Node fs (kindsOf fs (t :: bl)) t ⟨op, a, m⟩ s0 s v1 v2) : XG fs st t bl ⟨op, a, m⟩ := by
  have htk : takesK fs (fnOf fs t.f) ⟨op, a, m⟩ (topK s) = [0, 0] := by
    simp [takesK, show op ≠ 3 by omega, show op ≠ 5 by omega, show op ≠ 6 by omega, show op ≠ 22 by omega, show op ≠ 26 by omega, show op ≠ 29 by omega, show op ≠ 30 by omega, show op ≠ 23 by omega, show op ≠ 25 by omega, show op ≠ 24 by omega, show op ≠ 31 by omega, show op ≠ 32 by omega, h7, h20]
  have hlv : leavesK fs (fnOf fs t.f) ⟨op, a, m⟩ (topK s) = [0] := by
    simp [leavesK, show op ≠ 1 by omega, show op ≠ 28 by omega, show op ≠ 5 by omega, show op ≠ 2 by omega, show op ≠ 4 by omega, show op ≠ 23 by omega, show op ≠ 27 by omega, show op ≠ 32 by omega, h7, h20]
  have hty := hN.ty1
  rw [htk] at hty
  obtain ⟨y, x, rfl, hy, hx⟩ := Ty.two (show Ty _ [0, 0] v1 from hty)
  have hs := hN.stk
  have hl := hN.len
  rw [hs] at hl
  simp only [List.length_append, List.length_cons, List.length_nil] at hl
  by_cases he : doE op y = 0
  · refine x_plain hp h hd hf hN (by show op ≠ 21; omega) (by show op ≠ 24; omega) (by show op ≠ 26; omega) (by show op ≠ 30; omega) [doV op x y] ?_ ?_
    · rw [hlv]
      exact ⟨.num (doV_isW op x y hx.1), trivial⟩
    · simp [exec, Mc.top, hs, show op ≠ 1 by omega, show op ≠ 2 by omega, show op ≠ 3 by omega, show op ≠ 4 by omega, show op ≠ 5 by omega, show op ≠ 6 by omega, show op ≠ 21 by omega, show op ≠ 22 by omega, show op ≠ 23 by omega, show op ≠ 24 by omega, show op ≠ 25 by omega, show op ≠ 26 by omega, show op ≠ 27 by omega, show op ≠ 28 by omega, show op ≠ 29 by omega, show op ≠ 30 by omega, show op ≠ 31 by omega, show op ≠ 32 by omega, h7, h20, he]
  · refine ⟨_, ?_, good_raise (t2 := { t with next := t.next + 1, stack := v2 }) h hd hf byZero isW_byz rfl rfl rfl rfl rfl (by show v2.length ≤ 18; omega), rfl⟩
    simp [exec, Mc.top, hs, show op ≠ 1 by omega, show op ≠ 2 by omega, show op ≠ 3 by omega, show op ≠ 4 by omega, show op ≠ 5 by omega, show op ≠ 6 by omega, show op ≠ 21 by omega, show op ≠ 22 by omega, show op ≠ 23 by omega, show op ≠ 24 by omega, show op ≠ 25 by omega, show op ≠ 26 by omega, show op ≠ 27 by omega, show op ≠ 28 by omega, show op ≠ 29 by omega, show op ≠ 30 by omega, show op ≠ 31 by omega, show op ≠ 32 by omega, h7, h20, he]
theorem x_jump (hp : POk fs) (h : Good fs st) (hd : st.doing = 0) (hf : st.frames = t :: bl) (hN : Node fs (kindsOf fs (t :: bl)) t ⟨21, a, m⟩ s0 s v1 v2) : XG fs st t bl ⟨21, a, m⟩ := by
  obtain rfl := Ty.nil (ty_of hN.ty1 (by simp [takesK] : _ = []))
  have hs := hN.stk
  refine ⟨_, ?_, good_go (nv := []) hp h hd hf hN a (ok_facts hN.ok).1 (by simp [succK]) (by simp [leavesK, Ty]) (pan2 := st.panics) rfl h.panw h.tape (ev2 := st.evs) (by omega), rfl⟩
  simp [exec, Mc.top, Fr.goto, hs]
theorem x_branch (hp : POk fs) (h : Good fs st) (hd : st.doing = 0) (hf : st.frames = t :: bl) (hN : Node fs (kindsOf fs (t :: bl)) t ⟨22, a, m⟩ s0 s v1 v2) : XG fs st t bl ⟨22, a, m⟩ := by
  have hty := hN.ty1
  simp [takesK] at hty
  obtain ⟨v, rfl, hv⟩ := Ty.one hty
  have hs := hN.stk
  have h0 : 0 ≤ a := (ok_facts hN.ok).1
  have hx := hN.nx
  refine ⟨_, ?_, good_go (nv := []) hp h hd hf hN (if v = 0 then a else t.next + 1) (by split <;> omega) ?_ (by simp [leavesK, Ty]) (pan2 := st.panics) rfl h.panw h.tape (ev2 := st.evs) (by omega), rfl⟩
  · simp [exec, Mc.top, hs]
  · simp only [succK]
    rw [if_neg (by decide), if_pos trivial]
    split
    · simp
    · rw [next_nat hx]
      simp
theorem parK_eq {k : Int} (h0 : 0 ≤ k) (hk : k < fs.length) : parK fs ⟨op, k, m⟩ = (fnOf fs k.toNat).locals.take (fnOf fs k.toNat).params.toNat := by
  unfold parK
  rw [show (⟨op, k, m⟩ : Ins).arg.toNat = k.toNat from rfl, fnOf_some (by omega)]
theorem take_eq {k : Nat} (h : v1.length = k) : (v1 ++ v2).take k = v1 ∧ (v1 ++ v2).drop k = v2 := by
  subst h
  simp
theorem x_call (hp : POk fs) (h : Good fs st) (hd : st.doing = 0) (hf : st.frames = t :: bl) (hN : Node fs (kindsOf fs (t :: bl)) t ⟨23, a, m⟩ s0 s v1 v2) : XG fs st t bl ⟨23, a, m⟩ := by
  have h0 : 0 ≤ a := (ok_facts hN.ok).1
  have hr := hN.ref
  simp [insRef] at hr
  have hty := hN.ty1
  rw [show takesK fs (fnOf fs t.f) ⟨23, a, m⟩ (topK s) = parK fs ⟨23, a, m⟩ by simp [takesK], parK_eq h0 hr] at hty
  obtain ⟨k, hk⟩ : ∃ k : Nat, a.toNat = k := ⟨_, rfl⟩
  rw [hk] at hty
  have hkl : k < fs.length := by omega
  have hF := hp.each _ (fnOf_mem hkl)
  have hp0 := hF.p0
  have hp1 := hF.p1
  have hvl := hty.len
  rw [List.length_reverse, List.length_take] at hvl
  have hs := hN.stk
  have hl := hN.len
  obtain ⟨e1, e2⟩ := take_eq (v2 := v2) (show v1.length = (fnOf fs k).params.toNat by omega)
  have g1 := h.frs
  rw [hf, if_pos hd] at g1
  have f1 := g1.1
  have hrev := hty.reverse
  rw [List.reverse_reverse] at hrev
  have hgo := hN.reach (t.next + 1) (succ_next hN.nx (by show (23 : Int) ≠ 21; decide) (by show (23 : Int) ≠ 24; decide) (by show (23 : Int) ≠ 26; decide) (by show (23 : Int) ≠ 30; decide))
  rw [show leavesK fs (fnOf fs t.f) ⟨23, a, m⟩ (topK s) = (if (fnOf fs k).result then [0] else []) by
    simp [leavesK, resK, resOf, hk, fnOf_some hkl]] at hgo
  rw [hs, List.length_append] at hl
  have hw := h.wait
  have hpn := h.pans (by omega)
  have hme := h.mem
  rw [hf] at hw hpn hme
  rw [if_neg (by omega)] at hpn
  have h1 := h.s1
  rw [hf, if_pos hd] at h1
  refine ⟨_, ?_, begin_good (st := { st with steps := st.steps + 1, frames := { t with next := t.next + 1, stack := v2 } :: bl }) (why := 1) (k := k) (args := v1.reverse) (m := .res (fnOf fs k).result) hp ?_ (by rw [if_pos rfl]) hme (fun h => by cases h) hkl (by decide) hrev (by rw [if_neg (by decide)]; exact hpn) h.panw hw h.tape (by show (_ :: bl).length ≤ st.steps + 1; simp only [List.length_cons] at h1 ⊢; omega) (by show st.depth ≤ st.steps + 1 + 1; have := h.s2; omega) (by show st.panics.length ≤ st.steps + 1; have := h.s3; omega) (by show st.evs.length ≤ st.steps + 1; have := h.s4; omega) (by show st.waiting ≤ st.steps + 1; have := h.s5; omega) (by show st.defers ≤ st.steps + 1; have := h.s6; omega) (by show st.maxp ≤ st.steps + 1; have := h.s7; omega), rfl⟩
  · simp only [exec, hk]
    rw [if_neg (by decide), if_neg (by decide), if_neg (by decide), if_neg (by decide), if_neg (by decide), if_neg (by decide), if_neg (by decide), if_neg (by decide), if_pos trivial]
    rw [if_pos (by rw [hs, List.length_append]; exact ⟨by omega, hkl⟩)]
    simp only [Mc.top, Fr.cut, argsOf, hs, e1, e2]
  · refine FrsG.top g1 rfl rfl rfl f1.num (by show v2.length ≤ 18; omega) f1.defs ⟨s0, by show 0 ≤ t.next + 1; have := hN.nx; omega, hgo, hN.ty2⟩
theorem x_ret (hp : POk fs) (h : Good fs st) (hd : st.doing = 0) (hf : st.frames = t :: bl) (hN : Node fs (kindsOf fs (t :: bl)) t ⟨24, a, m⟩ s0 s v1 v2) : XG fs st t bl ⟨24, a, m⟩ := by
  have hs := hN.stk
  have hl := hN.len
  have g1 := h.frs
  rw [hf, if_pos hd] at g1
  have hty := hN.ty1
  rw [show takesK fs (fnOf fs t.f) ⟨24, a, m⟩ (topK s) = resOf (fnOf fs t.f) by simp [takesK]] at hty
  unfold resOf at hty
  by_cases hr : (fnOf fs t.f).result = true
  · rw [if_pos hr] at hty
    obtain ⟨v, rfl, hv⟩ := Ty.one hty
    rw [hs] at hl
    simp only [List.length_append, List.length_cons, List.length_nil] at hl
    refine ⟨_, ?_, good_end (t2 := { t with next := t.next + 1, stack := v2, number := v }) h hd hf 1 st.endk st.endv (.inl rfl) rfl rfl rfl rfl hv.1 (by show v2.length ≤ 18; omega), rfl⟩
    simp [exec, Mc.top, hs, hr]
  · refine ⟨_, ?_, good_end (t2 := { t with next := t.next + 1 }) h hd hf 1 st.endk st.endv (.inl rfl) rfl rfl rfl rfl g1.1.num (by show t.stack.length ≤ 18; omega), rfl⟩
    simp [exec, Mc.top, hr]
theorem x_defer (hp : POk fs) (h : Good fs st) (hd : st.doing = 0) (hf : st.frames = t :: bl) (hN : Node fs (kindsOf fs (t :: bl)) t ⟨25, a, m⟩ s0 s v1 v2) : XG fs st t bl ⟨25, a, m⟩ := by
  have h0 : 0 ≤ a := (ok_facts hN.ok).1
  have hr := hN.ref
  simp [insRef] at hr
  have hty := hN.ty1
  rw [show takesK fs (fnOf fs t.f) ⟨25, a, m⟩ (topK s) = parK fs ⟨25, a, m⟩ by simp [takesK], parK_eq h0 hr] at hty
  obtain ⟨k, hk⟩ : ∃ k : Nat, a.toNat = k := ⟨_, rfl⟩
  rw [hk] at hty
  have hkl : k < fs.length := by omega
  have hF := hp.each _ (fnOf_mem hkl)
  have hp0 := hF.p0
  have hp1 := hF.p1
  have hvl := hty.len
  rw [List.length_reverse, List.length_take] at hvl
  have hs := hN.stk
  have hl := hN.len
  obtain ⟨e1, e2⟩ := take_eq (v2 := v2) (show v1.length = (fnOf fs k).params.toNat by omega)
  have g1 := h.frs
  rw [hf, if_pos hd] at g1
  have f1 := g1.1
  have hrev := hty.reverse
  rw [List.reverse_reverse] at hrev
  obtain ⟨n1, nst⟩ := hN.go (t2 := { t with next := t.next + 1, stack := v2, defs := ⟨k, v1.reverse⟩ :: t.defs }) (nv := []) hp f1.f rfl (by show 0 ≤ t.next + 1; have := hN.nx; omega) (succ_next hN.nx (by show (25 : Int) ≠ 21; decide) (by show (25 : Int) ≠ 24; decide) (by show (25 : Int) ≠ 26; decide) (by show (25 : Int) ≠ 30; decide)) rfl (by simp [leavesK, Ty])
  obtain ⟨q1, q2, q3, q4, q5, q6, q7, q8, s1, s2, s3, s4, s5, s6, s7⟩ := h
  have q4 := q4 (by omega)
  rw [hf] at q2 q4 q6 s1
  rw [if_neg (by omega)] at q4
  rw [if_pos hd] at s1
  refine ⟨{ st with steps := st.steps + 1, frames := { t with next := t.next + 1, stack := v2, defs := ⟨k, v1.reverse⟩ :: t.defs } :: bl, waiting := st.waiting + 1, defers := max st.defers (st.waiting + 1) }, ?_, ?_, rfl⟩
  · simp only [exec, hk]
    rw [if_neg (by decide), if_neg (by decide), if_neg (by decide), if_neg (by decide), if_neg (by decide), if_neg (by decide), if_neg (by decide), if_neg (by decide), if_neg (by decide), if_neg (by decide), if_pos trivial]
    rw [if_pos (by rw [hs, List.length_append]; exact ⟨by omega, hkl⟩)]
    simp only [Mc.top, Fr.cut, argsOf, hs, e1, e2]
  · have hdf : ∀ d ∈ (⟨k, v1.reverse⟩ : Df) :: t.defs, d.fn < fs.length ∧ Ty (kindsOf fs (t :: bl)) ((fnOf fs d.fn).locals.take (fnOf fs d.fn).params.toNat) d.args := fun d hd' => by
      rcases List.mem_cons.1 hd' with rfl | hd'
      · exact ⟨hkl, hrev⟩
      · exact f1.defs d hd'
    refine ⟨by show FrsG fs st.mem (if st.doing = 0 then .run else .free) _; rw [if_pos hd]; exact FrsG.top g1 rfl rfl rfl f1.num nst hdf n1, q2, fun _ => by simp, fun _ => ?_, q5, ?_, q7, .inl hd, ?_, ?_, ?_, ?_, ?_, ?_, ?_⟩
    · show st.panics.length = n3 (_ :: bl) + (if st.doing = 2 then 1 else 0)
      rw [if_neg (by omega), q4]
      rfl
    · show st.waiting + 1 = nds (_ :: bl)
      rw [q6, nds, nds]
      show _ = (_ :: t.defs).length + _
      rw [List.length_cons]
      omega
    · show (_ :: bl).length ≤ st.steps + 1 + (if st.doing = 0 then 1 else 0)
      rw [if_pos hd]
      simp only [List.length_cons] at s1 ⊢
      omega
    · show st.depth ≤ st.steps + 1 + 1
      omega
    · show st.panics.length ≤ st.steps + 1
      omega
    · show st.evs.length ≤ st.steps + 1
      omega
    · show st.waiting + 1 ≤ st.steps + 1
      omega
    · show max st.defers (st.waiting + 1) ≤ st.steps + 1
      omega
    · show st.maxp ≤ st.steps + 1
      omega
theorem x_panic (hp : POk fs) (h : Good fs st) (hd : st.doing = 0) (hf : st.frames = t :: bl) (hN : Node fs (kindsOf fs (t :: bl)) t ⟨26, a, m⟩ s0 s v1 v2) : XG fs st t bl ⟨26, a, m⟩ := by
  have hty := hN.ty1
  simp [takesK] at hty
  obtain ⟨v, rfl, hv⟩ := Ty.one hty
  have hs := hN.stk
  have hl := hN.len
  rw [hs] at hl
  simp only [List.length_append, List.length_cons, List.length_nil] at hl
  refine ⟨_, ?_, good_raise (t2 := { t with next := t.next + 1, stack := v2 }) h hd hf v hv.1 rfl rfl rfl rfl rfl (by show v2.length ≤ 18; omega), rfl⟩
  simp [exec, hs]
theorem x_recover (hp : POk fs) (h : Good fs st) (hd : st.doing = 0) (hf : st.frames = t :: bl) (hN : Node fs (kindsOf fs (t :: bl)) t ⟨27, a, m⟩ s0 s v1 v2) : XG fs st t bl ⟨27, a, m⟩ := by
  obtain rfl := Ty.nil (ty_of hN.ty1 (by simp [takesK] : _ = []))
  have hs := hN.stk
  have hzz : XG fs st t bl ⟨27, a, m⟩ ∨ t.why = 3 := by
    by_cases hw : t.why = 3
    · exact .inr hw
    · refine .inl (x_plain hp h hd hf hN (by show (27 : Int) ≠ 21; decide) (by show (27 : Int) ≠ 24; decide) (by show (27 : Int) ≠ 26; decide) (by show (27 : Int) ≠ 30; decide) [0, 0] ?_ ?_)
      · simp [leavesK]
        exact ⟨.num isW_zero, .num isW_zero, trivial⟩
      · simp [exec, Mc.top, hs, hw]
  rcases hzz with hzz | hw
  · exact hzz
  have hpn := h.pans (by omega)
  rw [hf, n3, if_pos hw, if_neg (by omega)] at hpn
  rcases hpl : st.panics with _ | ⟨⟨v, r⟩, ps⟩
  · rw [hpl] at hpn
    simp at hpn
    omega
  cases r
  · have hvw : isW v := h.panw (v, false) (by rw [hpl]; simp)
    refine ⟨_, ?_, good_go (nv := [1, v]) hp h hd hf hN (t.next + 1) (by have := hN.nx; omega) (succ_next hN.nx (by show (27 : Int) ≠ 21; decide) (by show (27 : Int) ≠ 24; decide) (by show (27 : Int) ≠ 26; decide) (by show (27 : Int) ≠ 30; decide)) ?_ (pan2 := (v, true) :: ps) (by rw [hpl]; rfl) (fun p hp' => ?_) h.tape (ev2 := st.evs) (by omega), rfl⟩
    · simp [exec, Mc.top, hs, hw, hpl]
    · simp [leavesK]
      exact ⟨.num isW_one, .num hvw, trivial⟩
    · rcases List.mem_cons.1 hp' with rfl | hp'
      · exact hvw
      · exact h.panw p (by rw [hpl]; simp [hp'])
  · refine x_plain hp h hd hf hN (by show (27 : Int) ≠ 21; decide) (by show (27 : Int) ≠ 24; decide) (by show (27 : Int) ≠ 26; decide) (by show (27 : Int) ≠ 30; decide) [0, 0] ?_ ?_
    · simp [leavesK]
      exact ⟨.num isW_zero, .num isW_zero, trivial⟩
    · simp [exec, Mc.top, hs, hw, hpl]
theorem x_in (hp : POk fs) (h : Good fs st) (hd : st.doing = 0) (hf : st.frames = t :: bl) (hN : Node fs (kindsOf fs (t :: bl)) t ⟨28, a, m⟩ s0 s v1 v2) : XG fs st t bl ⟨28, a, m⟩ := by
  obtain rfl := Ty.nil (ty_of hN.ty1 (by simp [takesK] : _ = []))
  have hs := hN.stk
  have hvw : isW (st.tape.headD 0) := by
    cases ht : st.tape with
    | nil => exact isW_zero
    | cons x l => exact h.tape x (by rw [ht]; simp)
  refine ⟨_, ?_, good_go (nv := [st.tape.headD 0]) hp h hd hf hN (t.next + 1) (by have := hN.nx; omega) (succ_next hN.nx (by show (28 : Int) ≠ 21; decide) (by show (28 : Int) ≠ 24; decide) (by show (28 : Int) ≠ 26; decide) (by show (28 : Int) ≠ 30; decide)) ?_ (pan2 := st.panics) rfl h.panw (tape2 := st.tape.tail) (fun v hv => h.tape v (List.mem_of_mem_tail hv)) (ev2 := st.evs ++ [(2, st.tape.headD 0)]) (by simp), rfl⟩
  · simp [exec, Mc.top, Fr.push, hs]
  · exact ty_of (ks := [0]) ⟨.num hvw, trivial⟩ (by simp [leavesK])
theorem x_out (hp : POk fs) (h : Good fs st) (hd : st.doing = 0) (hf : st.frames = t :: bl) (hN : Node fs (kindsOf fs (t :: bl)) t ⟨29, a, m⟩ s0 s v1 v2) : XG fs st t bl ⟨29, a, m⟩ := by
  have hty := hN.ty1
  simp [takesK] at hty
  obtain ⟨v, rfl, hv⟩ := Ty.one hty
  have hs := hN.stk
  refine ⟨_, ?_, good_go (nv := []) hp h hd hf hN (t.next + 1) (by have := hN.nx; omega) (succ_next hN.nx (by show (29 : Int) ≠ 21; decide) (by show (29 : Int) ≠ 24; decide) (by show (29 : Int) ≠ 26; decide) (by show (29 : Int) ≠ 30; decide)) (by simp [leavesK, Ty]) (pan2 := st.panics) rfl h.panw h.tape (ev2 := st.evs ++ [(1, v)]) (by simp), rfl⟩
  simp [exec, Mc.top, hs]
theorem x_exit (hp : POk fs) (h : Good fs st) (hd : st.doing = 0) (hf : st.frames = t :: bl) (hN : Node fs (kindsOf fs (t :: bl)) t ⟨30, a, m⟩ s0 s v1 v2) : XG fs st t bl ⟨30, a, m⟩ := by
  have hty := hN.ty1
  simp [takesK] at hty
  obtain ⟨v, rfl, hv⟩ := Ty.one hty
  have hs := hN.stk
  have hl := hN.len
  rw [hs] at hl
  simp only [List.length_append, List.length_cons, List.length_nil] at hl
  have g1 := h.frs
  rw [hf, if_pos hd] at g1
  refine ⟨_, ?_, good_end (t2 := { t with next := t.next + 1, stack := v2 }) h hd hf 3 1 v (.inr rfl) rfl rfl rfl rfl g1.1.num (by show v2.length ≤ 18; omega), rfl⟩
  simp [exec, Mc.top, Mc.over, hs]
theorem x_drop (hp : POk fs) (h : Good fs st) (hd : st.doing = 0) (hf : st.frames = t :: bl) (hN : Node fs (kindsOf fs (t :: bl)) t ⟨31, a, m⟩ s0 s v1 v2) : XG fs st t bl ⟨31, a, m⟩ := by
  have hty := hN.ty1
  simp [takesK] at hty
  obtain ⟨v, rfl, hv⟩ := Ty.one hty
  have hs := hN.stk
  refine x_plain hp h hd hf hN (by show (31 : Int) ≠ 21; decide) (by show (31 : Int) ≠ 24; decide) (by show (31 : Int) ≠ 26; decide) (by show (31 : Int) ≠ 30; decide) [] (by simp [leavesK, Ty]) ?_
  simp [exec, Mc.top, hs]
theorem x_dup (hp : POk fs) (h : Good fs st) (hd : st.doing = 0) (hf : st.frames = t :: bl) (hN : Node fs (kindsOf fs (t :: bl)) t ⟨32, a, m⟩ s0 s v1 v2) : XG fs st t bl ⟨32, a, m⟩ := by
  have hty := hN.ty1
  simp [takesK] at hty
  obtain ⟨v, rfl, hv⟩ := Ty.one hty
  have hs := hN.stk
  refine x_plain hp h hd hf hN (by show (32 : Int) ≠ 21; decide) (by show (32 : Int) ≠ 24; decide) (by show (32 : Int) ≠ 26; decide) (by show (32 : Int) ≠ 30; decide) [v, v] ?_ ?_
  · simp [leavesK]
    exact ⟨hv, hv, trivial⟩
  · simp [exec, Mc.top, hs]
theorem exec_good (hp : POk fs) (h : Good fs st) (hd : st.doing = 0) (hf : st.frames = t :: bl) (hs6 : st.steps ≤ 1000000) (hN : Node fs (kindsOf fs (t :: bl)) t i s0 s v1 v2) : XG fs st t bl i := by
  obtain ⟨_, _, _, h1, h32⟩ := ok_facts hN.ok
  obtain ⟨op, a, m⟩ := i
  simp only at h1 h32
  by_cases h7 : 7 ≤ op ∧ op ≤ 20
  · exact x_op hp h hd hf h7.1 h7.2 hN
  rcases (show op = 1 ∨ op = 2 ∨ op = 3 ∨ op = 4 ∨ op = 5 ∨ op = 6 ∨ op = 21 ∨ op = 22 ∨ op = 23 ∨ op = 24 ∨ op = 25 ∨ op = 26 ∨ op = 27 ∨ op = 28 ∨ op = 29 ∨ op = 30 ∨ op = 31 ∨ op = 32 by omega) with rfl | rfl | rfl | rfl | rfl | rfl | rfl | rfl | rfl | rfl | rfl | rfl | rfl | rfl | rfl | rfl | rfl | rfl
  · exact x_const hp h hd hf hN
  · exact x_get hp h hd hf hN
  · exact x_set hp h hd hf hN
  · exact x_addr hp h hd hf hs6 hN
  · exact x_load hp h hd hf hN
  · exact x_store hp h hd hf hN
  · exact x_jump hp h hd hf hN
  · exact x_branch hp h hd hf hN
  · exact x_call hp h hd hf hN
  · exact x_ret hp h hd hf hN
  · exact x_defer hp h hd hf hN
  · exact x_panic hp h hd hf hN
  · exact x_recover hp h hd hf hN
  · exact x_in hp h hd hf hN
  · exact x_out hp h hd hf hN
  · exact x_exit hp h hd hf hN
  · exact x_drop hp h hd hf hN
  · exact x_dup hp h hd hf hN
end
end Go.Proofs.Ytdoabcmfblmklaa

/-
  Package sem: a program that obeys the rules runs on, whatever the fuel; with more fuel a run is the same as far as it goes.
-/
namespace Go.Proofs.Ytdoabcmfblmklaa
set_option linter.unusedVariables false
set_option linter.unusedSimpArgs false

section
variable {rs : List Raw} {st st1 st2 : Mc} {t : Fr} {bl : List Fr}
theorem ExF_of (hp : POk (fns rs)) (h : Good (fns rs) st) (hd : st.doing = 0) (hf : st.frames = t :: bl) (hs6 : st.steps ≤ 1000000) {i : Ins} {s0 s v1 v2 : List Int} (hN : Node (fns rs) (kindsOf (fns rs) (t :: bl)) t i s0 s v1 v2) :
    ExF (fns rs) { st with steps := st.steps + 1 } { t with next := t.next + 1 } bl i := by
  have g1 := h.frs
  rw [hf, if_pos hd] at g1
  have f1 := g1.1
  have hle := kinds_le hp g1
  have h1 := h.s1
  have hm := h.mem
  rw [hf] at h1 hm
  rw [if_pos hd] at h1
  simp only [List.length_cons] at hle h1
  have h2 := h.s2
  have h3 := h.s3
  have h4 := h.s4
  have h5 := h.s5
  have h6 := h.s6
  have h7 := h.s7
  have hw := h.wait
  rw [hf, nds] at hw
  have hb := g1.2.2.1
  have hkl := length_kinds (fns rs) t bl
  obtain ⟨a0, a1, a2, _, _⟩ := ok_facts hN.ok
  have hst := hN.len
  have hisw : ∀ v ∈ t.stack, isW v := by
    obtain ⟨s, _, _, n3⟩ := g1.2.1
    exact n3.isw
  unfold ExF
  refine ⟨⟨hd, by omega, by show st.depth ≤ _; omega, by show st.mem.length ≤ _; omega, by show st.panics.length ≤ _; omega, by show st.evs.length ≤ _; omega, by show st.waiting ≤ _; omega, by show st.defers ≤ _; omega, by show st.maxp ≤ _; omega⟩,
    ⟨f1.why, f1.f, by show t.stack.length + 2 ≤ _; omega, fun v hv => (by have := hisw v hv; unfold isW at this; omega), by show t.defs.length ≤ _; omega⟩, fun f hf => ?_, .inr (.inr a0), .inr ?_⟩
  · have hF := hp.each f hf
    have := hF.loc
    have := hF.p0
    have := hF.p1
    exact ⟨by omega, by omega, by omega⟩
  · show t.base + i.arg.toNat ≤ _
    omega
theorem step_good (hp : POk (fns rs)) (h : Good (fns rs) st) (hd : st.doing = 0) (hs6 : st.steps ≤ 1000000) : ∃ st2, StepB rs st st2 ∧ Good (fns rs) st2 ∧ st2.steps = st.steps + 1 ∧ (st2.doing = 0 ∨ st2.doing = 3) := by
  rcases hf : st.frames with _ | ⟨t, bl⟩
  · exact absurd hf (h.ne (by omega))
  obtain ⟨i, s0, s, v1, v2, hN⟩ := node_at hp h hd hf
  obtain ⟨st1, e1, e2, e3⟩ := exec_good hp h hd hf hs6 hN
  obtain ⟨N, st2, e4, e5, e6, e7, e8⟩ := settle_good hp st1.frames.length st1 (Nat.le_refl _) e2 (by omega)
  have g1 := h.frs
  rw [hf, if_pos hd] at g1
  have f1 := g1.1
  obtain ⟨r, hr, hfr⟩ := raw_at f1.f
  have hc := hN.code
  have hcl := (hp.each _ (fnOf_mem f1.f)).code
  rw [hfr] at hc hcl
  have h4 := e6.s4
  exact ⟨st2, ⟨t, bl, r, i, t.next.toNat, st1, N, hf, hr, by have := hN.nx; omega, hc, hd, by omega, by omega, e1, (ExF_of hp h hd hf hs6 hN).exb, e4, e5, by omega, by omega⟩, e6, by omega, e8⟩
theorem run_good (hp : POk (fns rs)) : ∀ (n : Nat) (st : Mc), Good (fns rs) st → st.doing = 0 ∨ st.doing = 3 → st.steps + n ≤ 1000000 → ∃ st', RunB rs n st st' ∧ Good (fns rs) st' ∧ (st'.doing = 0 ∧ st'.steps = st.steps + n ∨ st'.doing = 3)
  | 0, st, h, hd, _ => ⟨st, rfl, h, by omega⟩
  | n + 1, st, h, hd, hs => by
    by_cases h3 : st.doing = 3
    · exact ⟨st, by unfold RunB; rw [if_pos h3], h, .inr h3⟩
    · obtain ⟨st2, e1, e2, e3, e4⟩ := step_good hp h (by omega) (by omega)
      obtain ⟨st', r1, r2, r3⟩ := run_good hp n st2 e2 e4 (by omega)
      refine ⟨st', by unfold RunB; rw [if_neg h3]; exact ⟨st2, e1, r1⟩, r2, ?_⟩
      rcases r3 with ⟨a1, a2⟩ | a1
      · exact .inl ⟨a1, by omega⟩
      · exact .inr a1
theorem start_good {fs : List Fn} (hp : POk fs) {tape : List Int} (ht : ∀ v ∈ tape, isW v) : Good fs (start fs tape) :=
  begin_good (m := .free) hp trivial rfl rfl (fun _ => rfl) hp.pos (by omega) (by rw [hp.main.1]; exact trivial) rfl (fun p h => by cases h) rfl ht (Nat.le_refl _) (by show 0 ≤ 0 + 1; omega) (Nat.le_refl _) (Nat.le_refl _) (Nat.le_refl _) (Nat.le_refl _) (Nat.le_refl _)
/-- a run, whatever the fuel -/
theorem run_all (hp : POk (fns rs)) {tape : List Int} (ht : ∀ v ∈ tape, isW v) (n : Nat) (hn : n ≤ 1000000) : ∃ st', RunB rs n (start (fns rs) tape) st' ∧ Good (fns rs) st' ∧ (st'.doing = 0 ∧ st'.steps = n ∨ st'.doing = 3) := by
  obtain ⟨st', h1, h2, h3⟩ := run_good hp n _ (start_good hp ht) (.inl rfl) (by show 0 + n ≤ _; omega)
  refine ⟨st', h1, h2, ?_⟩
  rcases h3 with ⟨a1, a2⟩ | a1
  · exact .inl ⟨a1, by rw [a2]; show 0 + n = n; omega⟩
  · exact .inr a1

/-! one run -/
theorem settle_one {fs : List Fn} : ∀ {N M : Nat} {st a b : Mc}, settle fs N st = some a → settle fs M st = some b → a = b
  | 0, _, _, _, _, h, _ => by cases h
  | _, 0, _, _, _, _, h => by cases h
  | N + 1, M + 1, st, a, b, h1, h2 => by
    unfold settle at h1 h2
    split at h1
    · rename_i hd
      rw [if_pos hd] at h2
      cases hs : settle1 fs st with
      | none => rw [hs] at h1; cases h1
      | some x =>
        rw [hs] at h1 h2
        exact settle_one h1 h2
    · rename_i hd
      rw [if_neg hd] at h2
      injection h1 with h1
      injection h2 with h2
      rw [← h1, h2]
theorem StepB.one (h1 : StepB rs st st1) (h2 : StepB rs st st2) : st1 = st2 := by
  obtain ⟨t, bl, r, i, x, s1, N, a1, a2, a3, a4, a5, a6, a7, a8, a9, a10, a11, a12, a13⟩ := h1
  obtain ⟨t', bl', r', i', x', s1', N', b1, b2, b3, b4, b5, b6, b7, b8, b9, b10, b11, b12, b13⟩ := h2
  rw [a1] at b1
  injection b1 with b0 b1
  subst b0 b1
  rw [a2] at b2
  injection b2 with b2
  subst b2
  have hx : x = x' := by omega
  subst hx
  rw [a4] at b4
  injection b4 with b4
  subst b4
  rw [a8] at b8
  injection b8 with b8
  subst b8
  exact settle_one a10 b10
theorem RunB.split : ∀ {n m : Nat} {st a b : Mc}, RunB rs n st a → RunB rs (n + m) st b → RunB rs m a b
  | 0, m, st, a, b, h1, h2 => by
    have : a = st := h1
    subst this
    rw [Nat.zero_add] at h2
    exact h2
  | n + 1, m, st, a, b, h1, h2 => by
    rw [show n + 1 + m = (n + m) + 1 by omega] at h2
    unfold RunB at h1 h2
    by_cases h3 : st.doing = 3
    · rw [if_pos h3] at h1 h2
      subst h1 h2
      cases m with
      | zero => rfl
      | succ m => unfold RunB; rw [if_pos h3]
    · rw [if_neg h3] at h1 h2
      obtain ⟨x, e1, e2⟩ := h1
      obtain ⟨y, e3, e4⟩ := h2
      have := e1.one e3
      subst this
      exact RunB.split e2 e4
/-- what only grows -/
structure Grow (a b : Mc) : Prop where
  depth : a.depth ≤ b.depth
  defers : a.defers ≤ b.defers
  maxp : a.maxp ≤ b.maxp
  evs : ∃ l, b.evs = a.evs ++ l
theorem Grow.refl (a : Mc) : Grow a a := ⟨Nat.le_refl _, Nat.le_refl _, Nat.le_refl _, ⟨[], by simp⟩⟩
theorem Grow.trans {a b c : Mc} (h1 : Grow a b) (h2 : Grow b c) : Grow a c := by
  obtain ⟨l, e1⟩ := h1.evs
  obtain ⟨l', e2⟩ := h2.evs
  exact ⟨Nat.le_trans h1.depth h2.depth, Nat.le_trans h1.defers h2.defers, Nat.le_trans h1.maxp h2.maxp, ⟨l ++ l', by rw [e2, e1, List.append_assoc]⟩⟩
theorem ite_some {c : Prop} [Decidable c] {a b : Option Mc} {P : Mc → Prop} (h1 : ∀ x, a = some x → P x) (h2 : ∀ x, b = some x → P x) : ∀ x, (if c then a else b) = some x → P x := by
  intro x h
  by_cases hc : c
  · rw [if_pos hc] at h; exact h1 x h
  · rw [if_neg hc] at h; exact h2 x h
theorem map_some {o : Option Int} {f : Int → Mc} {P : Mc → Prop} (h : ∀ v, P (f v)) : ∀ x, o.map f = some x → P x := by
  intro x hx
  cases o with
  | none => cases hx
  | some v => injection hx with hx; subst hx; exact h v
theorem none_some {P : Mc → Prop} : ∀ x, (none : Option Mc) = some x → P x := fun x h => by cases h
theorem some_some {y : Mc} {P : Mc → Prop} (h : P y) : ∀ x, some y = some x → P x := fun x hx => by injection hx with hx; subst hx; exact h
theorem exec_grow' {fs : List Fn} {i : Ins} : ∀ x, exec fs st t bl i = some x → Grow st x ∧ x.steps = st.steps := by
  unfold exec
  rcases hs : t.stack with _ | ⟨v, _ | ⟨p, s⟩⟩ <;> rcases hq : st.panics with _ | ⟨⟨u, _ | _⟩, ps⟩ <;> simp only
  all_goals repeat' refine ite_some ?_ ?_
  all_goals first
    | exact none_some
    | exact some_some ⟨⟨Nat.le_refl _, Nat.le_refl _, Nat.le_refl _, ⟨_, rfl⟩⟩, rfl⟩
    | exact map_some fun v => ⟨⟨Nat.le_refl _, Nat.le_refl _, Nat.le_refl _, ⟨[], by simp [Mc.top]⟩⟩, rfl⟩
    | exact some_some ⟨⟨Nat.le_refl _, Nat.le_refl _, Nat.le_refl _, ⟨[], by simp [Mc.top, Mc.over]⟩⟩, rfl⟩
    | exact some_some ⟨⟨Nat.le_refl _, Nat.le_refl _, Nat.le_max_left _ _, ⟨[], by simp [Mc.top, Mc.raise]⟩⟩, rfl⟩
    | exact some_some ⟨⟨Nat.le_max_left _ _, Nat.le_refl _, Nat.le_refl _, ⟨[], by simp [Mc.top, Mc.begin]⟩⟩, rfl⟩
    | exact some_some ⟨⟨Nat.le_refl _, Nat.le_max_left _ _, Nat.le_refl _, ⟨[], by simp [Mc.top, Mc.begin]⟩⟩, rfl⟩
theorem exec_grow {fs : List Fn} {i : Ins} (h : exec fs st t bl i = some st1) : Grow st st1 ∧ st1.steps = st.steps := exec_grow' _ h
theorem settle1_grow {fs : List Fn} (h : settle1 fs st = some st1) : Grow st st1 := by
  unfold settle1 at h
  repeat' split at h
  all_goals first
    | cases h
    | (simp only [Option.map_eq_some_iff] at h; obtain ⟨v, _, h⟩ := h; subst h; exact ⟨Nat.le_refl _, Nat.le_refl _, Nat.le_refl _, ⟨[], by simp [Mc.top]⟩⟩)
  all_goals first
    | exact ⟨Nat.le_refl _, Nat.le_refl _, Nat.le_refl _, ⟨[], by simp [Mc.top, Mc.over]⟩⟩
    | exact ⟨Nat.le_max_left _ _, Nat.le_refl _, Nat.le_refl _, ⟨[], by simp [Mc.top, Mc.begin]⟩⟩
theorem settle_grow {fs : List Fn} : ∀ {N : Nat} {st a : Mc}, settle fs N st = some a → Grow st a
  | 0, _, _, h => by cases h
  | N + 1, st, a, h => by
    unfold settle at h
    split at h
    · cases hs : settle1 fs st with
      | none => rw [hs] at h; cases h
      | some x =>
        rw [hs] at h
        exact (settle1_grow hs).trans (settle_grow h)
    · injection h with h
      subst h
      exact .refl _
theorem StepB.grow (h : StepB rs st st2) : Grow st st2 := by
  obtain ⟨t, bl, r, i, x, s1, N, a1, a2, a3, a4, a5, a6, a7, a8, a9, a10, a11, a12, a13⟩ := h
  obtain ⟨⟨g1, g2, g3, g4⟩, _⟩ := exec_grow a8
  exact Grow.trans ⟨g1, g2, g3, g4⟩ (settle_grow a10)
theorem RunB.grow : ∀ {n : Nat} {st a : Mc}, RunB rs n st a → Grow st a
  | 0, st, a, h => by
    have : a = st := h
    subst this
    exact .refl _
  | n + 1, st, a, h => by
    unfold RunB at h
    split at h
    · subst h
      exact .refl _
    · obtain ⟨x, e1, e2⟩ := h
      exact e1.grow.trans e2.grow
end
end Go.Proofs.Ytdoabcmfblmklaa

/-
  Package sem: Run, whatever it is given: the whole answer.
-/
namespace Go.Proofs.Ytdoabcmfblmklaa
set_option linter.unusedVariables false
set_option linter.unusedSimpArgs false
open Go.ChangeShapes Go.WideShapes Go.ChangeAt Go.RowKit

def zeroR : Value := .agg #[.slice none 0 0, .int .i64 0, .int .u64 0, .int .i64 0, .int .i64 0, .int .i64 0, .int .i64 0]
set_option maxRecDepth 100000 in
set_option maxHeartbeats 6400000 in
theorem run_bad (B n c : Nat) (A : Option Addr) (rs : List Raw) (ta : Option Addr) (nt ct : Nat) (x : Int) (w : World) (h : RdP w B A n rs) (hB : B ≤ w.heap.size) (v : Int) (hv : verd (fns rs) = v) (hv0 : v ≠ 0) :
    Calls Try.prog 9 #[.agg #[.slice A n c], .slice ta nt ct, .int .i64 x] w fun e w' => e = .returned (.tuple #[zeroR, .int .i64 v]) ∧ Below w.heap.size w w' := by
  have HB0 : Hid (Below w.heap.size w ((w.alloc (.cells #[.slice A n c] 24)).alloc (.cells #[.slice none 0 0, .int .i64 0, .int .u64 0, .int .i64 0, .int .i64 0, .int .i64 0, .int .i64 0] 34))) := ((Below.refl _ _).alloc (Nat.le_refl _) _).alloc (by simp) _
  have HZ0 : Hid (Blk ((w.alloc (.cells #[.slice A n c] 24)).alloc (.cells #[.slice none 0 0, .int .i64 0, .int .u64 0, .int .i64 0, .int .i64 0, .int .i64 0, .int .i64 0] 34)) (w.heap.size + 1) 34 #[.slice none 0 0, .int .i64 0, .int .u64 0, .int .i64 0, .int .i64 0, .int .i64 0, .int .i64 0]) := Lib.hid (by
    have := Blk.new (w.alloc (.cells #[.slice A n c] 24)) 34 #[.slice none 0 0, .int .i64 0, .int .u64 0, .int .i64 0, .int .i64 0, .int .i64 0, .int .i64 0]
    rwa [show (w.alloc (.cells #[.slice A n c] 24)).heap.size = w.heap.size + 1 by simp] at this)
  have HC : Hid (Calls Try.prog 12 #[.agg #[.slice A n c]] ((w.alloc (.cells #[.slice A n c] 24)).alloc (.cells #[.slice none 0 0, .int .i64 0, .int .u64 0, .int .i64 0, .int .i64 0, .int .i64 0, .int .i64 0] 34)) fun e w' => e = .returned (.tuple #[.pointer none, .int .i64 v]) ∧ Below ((w.alloc (.cells #[.slice A n c] 24)).alloc (.cells #[.slice none 0 0, .int .i64 0, .int .u64 0, .int .i64 0, .int .i64 0, .int .i64 0, .int .i64 0] 34)).heap.size ((w.alloc (.cells #[.slice A n c] 24)).alloc (.cells #[.slice none 0 0, .int .i64 0, .int .u64 0, .int .i64 0, .int .i64 0, .int .i64 0, .int .i64 0] 34)) w') := by
    refine Lib.hid ((check_any B A n c rs _ (h.below (HB0.out.mono hB)) (by simp; omega)).mono ?_)
    rintro e w' ⟨hb, ⟨hn, rfl⟩ | ⟨h0, _⟩⟩
    · exact ⟨by rw [hv], hb⟩
    · exact absurd h0 (by rw [hv]; exact hv0)
  have hne : (v != 0) = true := by simpa using hv0
  clear h hv
  go_enter Try.func9, Try.ntmps9
  go_wp2_with (first | (go_at_call 12; refine HC.out.mono ?_; rintro e w2 ⟨rfl, hb2⟩; have HZ2 := Lib.hid (HZ0.out.below hb2 HZ0.out.lt); have HB2 := Lib.hid (HB0.out.trans (hb2.mono (by simp; omega))); clear hb2; refine Hid.out ?_))
  have z0 : w2.cell? ⟨w.heap.size + 1, 0, none⟩ = some (.slice none 0 0) := HZ2.out.cell 0
  have z1 : w2.cell? ⟨w.heap.size + 1, 1, none⟩ = some (.int .i64 0) := HZ2.out.cell 1
  have z2 : w2.cell? ⟨w.heap.size + 1, 2, none⟩ = some (.int .u64 0) := HZ2.out.cell 2
  have z3 : w2.cell? ⟨w.heap.size + 1, 3, none⟩ = some (.int .i64 0) := HZ2.out.cell 3
  have z4 : w2.cell? ⟨w.heap.size + 1, 4, none⟩ = some (.int .i64 0) := HZ2.out.cell 4
  have z5 : w2.cell? ⟨w.heap.size + 1, 5, none⟩ = some (.int .i64 0) := HZ2.out.cell 5
  have z6 : w2.cell? ⟨w.heap.size + 1, 6, none⟩ = some (.int .i64 0) := HZ2.out.cell 6
  have zf : ∀ i, w2.frozen? ⟨w.heap.size + 1, i, none⟩ = false := fun i => HZ2.out.frozen i
  refine Lib.hid ?_
  go_wp2
  have hfin : Blk (((((((w2.setCell ⟨w.heap.size + 1, 0, none⟩ (.slice none 0 0)).setCell ⟨w.heap.size + 1, 1, none⟩ (.int .i64 0)).setCell ⟨w.heap.size + 1, 2, none⟩ (.int .u64 0)).setCell ⟨w.heap.size + 1, 3, none⟩ (.int .i64 0)).setCell ⟨w.heap.size + 1, 4, none⟩ (.int .i64 0)).setCell ⟨w.heap.size + 1, 5, none⟩ (.int .i64 0)).setCell ⟨w.heap.size + 1, 6, none⟩ (.int .i64 0)) (w.heap.size + 1) 34 #[.slice none 0 0, .int .i64 0, .int .u64 0, .int .i64 0, .int .i64 0, .int .i64 0, .int .i64 0] ∧
      Below w.heap.size w (((((((w2.setCell ⟨w.heap.size + 1, 0, none⟩ (.slice none 0 0)).setCell ⟨w.heap.size + 1, 1, none⟩ (.int .i64 0)).setCell ⟨w.heap.size + 1, 2, none⟩ (.int .u64 0)).setCell ⟨w.heap.size + 1, 3, none⟩ (.int .i64 0)).setCell ⟨w.heap.size + 1, 4, none⟩ (.int .i64 0)).setCell ⟨w.heap.size + 1, 5, none⟩ (.int .i64 0)).setCell ⟨w.heap.size + 1, 6, none⟩ (.int .i64 0)) := by
    obtain ⟨h1, _, h3⟩ := fin_set (w := w) (AE := none) (cE := 0) (mc0 []) HZ2.out (by omega) (own_none _ _ _ _) HB2.out
    exact ⟨h1, h3⟩
  obtain ⟨hfb, hfw⟩ := hfin
  obtain ⟨Wf, hWf⟩ : ∃ W, W = (((((((w2.setCell ⟨w.heap.size + 1, 0, none⟩ (.slice none 0 0)).setCell ⟨w.heap.size + 1, 1, none⟩ (.int .i64 0)).setCell ⟨w.heap.size + 1, 2, none⟩ (.int .u64 0)).setCell ⟨w.heap.size + 1, 3, none⟩ (.int .i64 0)).setCell ⟨w.heap.size + 1, 4, none⟩ (.int .i64 0)).setCell ⟨w.heap.size + 1, 5, none⟩ (.int .i64 0)).setCell ⟨w.heap.size + 1, 6, none⟩ (.int .i64 0)) := ⟨_, rfl⟩
  rw [← hWf] at hfb hfw ⊢
  clear hWf
  have e0 := hfb.cell 0
  have e1 := hfb.cell 1
  have e2 := hfb.cell 2
  have e3 := hfb.cell 3
  have e4 := hfb.cell 4
  have e5 := hfb.cell 5
  have e6 := hfb.cell 6
  simp only [List.getElem?_toArray, List.getElem?_cons_succ, List.getElem?_cons_zero] at e0 e1 e2 e3 e4 e5 e6
  refine bodyPost_ret (v := .tuple #[zeroR, .int .i64 v]) (by simp [zeroR, results, Try.results9, go_sem, e0, e1, e2, e3, e4, e5, e6]) rfl ?_
  exact ⟨rfl, hfw⟩
set_option maxRecDepth 100000 in
set_option maxHeartbeats 6400000 in
theorem run_arg (B n c : Nat) (A : Option Addr) (rs : List Raw) (ta : Option Addr) (nt ct : Nat) (x : Int) (w : World) (h : RdP w B A n rs) (hB : B ≤ w.heap.size) (hv : verd (fns rs) = 0) (b0 b1 : Bool) (hf0 : decide (x < 0) = b0) (hf1 : decide (x > 1048576) = b1) (hb01 : (b0 || b1) = true) :
    Calls Try.prog 9 #[.agg #[.slice A n c], .slice ta nt ct, .int .i64 x] w fun e w' => e = .returned (.tuple #[zeroR, .int .i64 2]) ∧ Below w.heap.size w w' := by
  have HB0 : Hid (Below w.heap.size w ((w.alloc (.cells #[.slice A n c] 24)).alloc (.cells #[.slice none 0 0, .int .i64 0, .int .u64 0, .int .i64 0, .int .i64 0, .int .i64 0, .int .i64 0] 34))) := ((Below.refl _ _).alloc (Nat.le_refl _) _).alloc (by simp) _
  have HZ0 : Hid (Blk ((w.alloc (.cells #[.slice A n c] 24)).alloc (.cells #[.slice none 0 0, .int .i64 0, .int .u64 0, .int .i64 0, .int .i64 0, .int .i64 0, .int .i64 0] 34)) (w.heap.size + 1) 34 #[.slice none 0 0, .int .i64 0, .int .u64 0, .int .i64 0, .int .i64 0, .int .i64 0, .int .i64 0]) := Lib.hid (by
    have := Blk.new (w.alloc (.cells #[.slice A n c] 24)) 34 #[.slice none 0 0, .int .i64 0, .int .u64 0, .int .i64 0, .int .i64 0, .int .i64 0, .int .i64 0]
    rwa [show (w.alloc (.cells #[.slice A n c] 24)).heap.size = w.heap.size + 1 by simp] at this)
  have HC := Lib.hid (check_ok B A n c rs _ (h.below (HB0.out.mono hB)) (by simp; omega) hv)
  clear h hv
  go_enter Try.func9, Try.ntmps9
  go_wp2_with (first | (go_at_call 12; refine HC.out.mono ?_; rintro e w2 ⟨⟨ty, rfl⟩, hb2⟩; have HZ2 := Lib.hid (HZ0.out.below hb2 HZ0.out.lt); have HB2 := Lib.hid (HB0.out.trans (hb2.mono (by simp; omega))); clear hb2; refine Hid.out ?_))
  have z0 : w2.cell? ⟨w.heap.size + 1, 0, none⟩ = some (.slice none 0 0) := HZ2.out.cell 0
  have z1 : w2.cell? ⟨w.heap.size + 1, 1, none⟩ = some (.int .i64 0) := HZ2.out.cell 1
  have z2 : w2.cell? ⟨w.heap.size + 1, 2, none⟩ = some (.int .u64 0) := HZ2.out.cell 2
  have z3 : w2.cell? ⟨w.heap.size + 1, 3, none⟩ = some (.int .i64 0) := HZ2.out.cell 3
  have z4 : w2.cell? ⟨w.heap.size + 1, 4, none⟩ = some (.int .i64 0) := HZ2.out.cell 4
  have z5 : w2.cell? ⟨w.heap.size + 1, 5, none⟩ = some (.int .i64 0) := HZ2.out.cell 5
  have z6 : w2.cell? ⟨w.heap.size + 1, 6, none⟩ = some (.int .i64 0) := HZ2.out.cell 6
  have zf : ∀ i, w2.frozen? ⟨w.heap.size + 1, i, none⟩ = false := fun i => HZ2.out.frozen i
  refine Lib.hid ?_
  cases b0 <;> cases b1 <;> (try (exact absurd hb01 (by decide)))
  all_goals
    go_wp2
    have hfin : Blk (((((((w2.setCell ⟨w.heap.size + 1, 0, none⟩ (.slice none 0 0)).setCell ⟨w.heap.size + 1, 1, none⟩ (.int .i64 0)).setCell ⟨w.heap.size + 1, 2, none⟩ (.int .u64 0)).setCell ⟨w.heap.size + 1, 3, none⟩ (.int .i64 0)).setCell ⟨w.heap.size + 1, 4, none⟩ (.int .i64 0)).setCell ⟨w.heap.size + 1, 5, none⟩ (.int .i64 0)).setCell ⟨w.heap.size + 1, 6, none⟩ (.int .i64 0)) (w.heap.size + 1) 34 #[.slice none 0 0, .int .i64 0, .int .u64 0, .int .i64 0, .int .i64 0, .int .i64 0, .int .i64 0] ∧
        Below w.heap.size w (((((((w2.setCell ⟨w.heap.size + 1, 0, none⟩ (.slice none 0 0)).setCell ⟨w.heap.size + 1, 1, none⟩ (.int .i64 0)).setCell ⟨w.heap.size + 1, 2, none⟩ (.int .u64 0)).setCell ⟨w.heap.size + 1, 3, none⟩ (.int .i64 0)).setCell ⟨w.heap.size + 1, 4, none⟩ (.int .i64 0)).setCell ⟨w.heap.size + 1, 5, none⟩ (.int .i64 0)).setCell ⟨w.heap.size + 1, 6, none⟩ (.int .i64 0)) := by
      obtain ⟨h1, _, h3⟩ := fin_set (w := w) (AE := none) (cE := 0) (mc0 []) HZ2.out (by omega) (own_none _ _ _ _) HB2.out
      exact ⟨h1, h3⟩
    obtain ⟨hfb, hfw⟩ := hfin
    obtain ⟨Wf, hWf⟩ : ∃ W, W = (((((((w2.setCell ⟨w.heap.size + 1, 0, none⟩ (.slice none 0 0)).setCell ⟨w.heap.size + 1, 1, none⟩ (.int .i64 0)).setCell ⟨w.heap.size + 1, 2, none⟩ (.int .u64 0)).setCell ⟨w.heap.size + 1, 3, none⟩ (.int .i64 0)).setCell ⟨w.heap.size + 1, 4, none⟩ (.int .i64 0)).setCell ⟨w.heap.size + 1, 5, none⟩ (.int .i64 0)).setCell ⟨w.heap.size + 1, 6, none⟩ (.int .i64 0)) := ⟨_, rfl⟩
    rw [← hWf] at hfb hfw ⊢
    clear hWf
    have e0 := hfb.cell 0
    have e1 := hfb.cell 1
    have e2 := hfb.cell 2
    have e3 := hfb.cell 3
    have e4 := hfb.cell 4
    have e5 := hfb.cell 5
    have e6 := hfb.cell 6
    simp only [List.getElem?_toArray, List.getElem?_cons_succ, List.getElem?_cons_zero] at e0 e1 e2 e3 e4 e5 e6
    refine bodyPost_ret (v := .tuple #[zeroR, .int .i64 2]) (by simp [zeroR, results, Try.results9, go_sem, e0, e1, e2, e3, e4, e5, e6]) rfl ?_
    exact ⟨rfl, hfw⟩
def RunAns (rs : List Raw) (tape : List Int) (fuel : Nat) (er : Int) (st : Mc) : Prop :=
  (verd (fns rs) ≠ 0 ∧ er = verd (fns rs) ∧ st = mc0 []) ∨
  (verd (fns rs) = 0 ∧ er = 0 ∧ ∃ stF, RunB rs fuel (start (fns rs) tape) stF ∧ Good (fns rs) stF ∧ (stF.doing = 0 ∧ stF.steps = fuel ∨ stF.doing = 3) ∧ st = if stF.doing = 3 then stF else stF.over 3 0)
def RunPost (w : World) (rs : List Raw) (tape : List Int) (fuel : Nat) (e : Ending) (w' : World) : Prop :=
  ∃ A c st er, e = .returned (.tuple #[.agg #[.slice A st.evs.length c, .int .i64 st.endk, .int .u64 st.endv, .int .i64 st.steps, .int .i64 st.depth, .int .i64 st.defers, .int .i64 st.maxp], .int .i64 er]) ∧ RunAns rs tape fuel er st ∧
    w'.ownsRow w.heap.size 50 2 (.slice A st.evs.length c) st.evs.length (evc6 st.evs) ∧ Below w.heap.size w w'
theorem run_full (B n c : Nat) (A : Option Addr) (rs : List Raw) (ta : Option Addr) (nt ct : Nat) (tape : List Int) (fuel : Nat) (w : World) (h : RdP w B A n rs) (hB : B ≤ w.heap.size) (ht : Reads w B 1 ta nt (u64c tape)) (hnt : nt * 8 ≤ 140737488351232) (htw : ∀ v ∈ tape, isW v) (hfu : fuel ≤ 1000000) :
    Calls Try.prog 9 #[.agg #[.slice A n c], .slice ta nt ct, .int .i64 fuel] w (RunPost w rs tape fuel) := by
  by_cases hv : verd (fns rs) = 0
  · have hp := verd_pok hv
    obtain ⟨stF, h1, h2, h3⟩ := run_all (rs := rs) hp htw fuel hfu
    have hn : 0 < n := by have := hp.pos; rw [length_fns, h.len] at this; exact this
    obtain ⟨b, off, rfl, hb, hc⟩ := h.row.lit (by omega) (by omega)
    have hl : 0 < rs.length := by rw [h.len]; exact hn
    have hr0 : rs[0]? = some rs[0] := List.getElem?_eq_getElem hl
    have hl0 := (hp.each _ (raw_mem (List.getElem_mem hl))).loc
    refine (run_ok B b off n c rs ta nt ct tape fuel stF w h hB ht hnt (by omega) hv hr0 (by omega) h1 _ rfl).mono ?_
    rintro e w' ⟨ev, rfl, hown, hbl⟩
    obtain ⟨A', c', rfl⟩ := own_slice hown
    exact ⟨A', c', _, 0, rfl, .inr ⟨hv, rfl, stF, h1, h2, h3, rfl⟩, hown, hbl⟩
  · refine (run_bad B n c A rs ta nt ct fuel w h hB _ rfl hv).mono ?_
    rintro e w' ⟨rfl, hbl⟩
    exact ⟨none, 0, mc0 [], _, rfl, .inl ⟨hv, rfl, rfl⟩, own_none _ _ _ _, hbl⟩
end Go.Proofs.Ytdoabcmfblmklaa
