/-
  The row's own way to all stacks of a function, plainly: it goes over the code again and again till nothing new is come to.
-/
import Derived.Test.YtcgoanfhabjpfaaKAft
namespace Go.Proofs.Ytcgoanfhabjpfaa
set_option linter.unusedVariables false
set_option linter.unusedSimpArgs false
open Go.ChangeShapes Go.WideShapes Go.ChangeAt Go.RowKit

/-- what has been gone on from, at one place -/
def Dn (fs : List Fn) (f : Fn) (l : List (Option Stk)) (deep : Bool) (a : Nat) (s : Stk) : Prop := ∃ i s', f.code[a]? = some i ∧ afterK fs f i s = some s' ∧ (∀ b ∈ succK a i, l[b]? = some (some s')) ∧ (16 < s'.length → deep = true)
/-- a sweep over the code has come to a -/
structure Swp (fs : List Fn) (f : Fn) (l : List (Option Stk)) (more deep : Bool) (c0 a : Nat) : Prop where
  len : l.length = f.code.length
  zero : l[0]? = some (some [])
  sound : ∀ (b : Nat) s, l[b]? = some (some s) → Reach fs f b s
  short : ∀ (b : Nat) s, l[b]? = some (some s) → s.length + 2 + 2 * cnt l ≤ 2 * l.length
  kinds : ∀ (b : Nat) s, l[b]? = some (some s) → k01 s
  seen : deep = true → ∃ b s i s', Reach fs f b s ∧ f.code[b]? = some i ∧ afterK fs f i s = some s' ∧ 16 < s'.length
  done : more = false → ∀ b, b < a → ∀ s, l[b]? = some (some s) → Dn fs f l deep b s
  less : more = true → cnt l < c0
  le : cnt l ≤ c0
section
variable {fs : List Fn} {f : Fn} {l : List (Option Stk)} {more deep : Bool} {c0 a b : Nat} {s s' : Stk} {i : Ins}
theorem Swp.start (hc : 0 < f.code.length) : Swp fs f ((List.replicate f.code.length none).set 0 (some [])) false false (cnt ((List.replicate f.code.length none).set 0 (some []))) 0 := by
  have h := Inv.start (fs := fs) hc
  refine ⟨h.len, h.zero, h.sound, h.short, fun b s hb => ?_, (by intro h; cases h), (by intro _ b hb; omega), (by intro h; cases h), Nat.le_refl _⟩
  rw [List.getElem?_set] at hb
  split at hb
  · split at hb
    · simp at hb; subst hb; exact k01_nil
    · cases hb
  · rw [List.getElem?_replicate] at hb
    split at hb <;> simp at hb
/-- the head of a round -/
theorem Swp.again (h : Swp fs f l more deep c0 a) : Swp fs f l false deep (cnt l) 0 :=
  ⟨h.len, h.zero, h.sound, h.short, h.kinds, h.seen, (by intro _ b hb; omega), (by intro h; cases h), Nat.le_refl _⟩
theorem Swp.skip (h : Swp fs f l more deep c0 a) (ha : l[a]? = some none) : Swp fs f l more deep c0 (a + 1) :=
  ⟨h.len, h.zero, h.sound, h.short, h.kinds, h.seen, (by
    intro hm b hb s hs
    rcases Nat.lt_succ_iff_lt_or_eq.1 hb with hlt | rfl
    · exact h.done hm b hlt s hs
    · rw [ha] at hs; cases hs), h.less, h.le⟩
theorem Dn.deep_ {d d' : Bool} (h : Dn fs f l d b s) (hd : d = true → d' = true) : Dn fs f l d' b s := by
  obtain ⟨i, s', h1, h2, h3, h4⟩ := h
  exact ⟨i, s', h1, h2, h3, fun hh => hd (h4 hh)⟩
/-- deep is turned -/
theorem Swp.look (h : Swp fs f l more deep c0 a) (ha : l[a]? = some (some s)) (hc : f.code[a]? = some i) (hs : afterK fs f i s = some s') : Swp fs f l more (deep || decide (16 < s'.length)) c0 a :=
  ⟨h.len, h.zero, h.sound, h.short, h.kinds, (by
    intro hd
    cases hdd : deep with
    | true => exact h.seen hdd
    | false =>
      rw [hdd] at hd
      exact ⟨a, s, i, s', h.sound a s ha, hc, hs, by simpa using hd⟩), fun hm b hb t ht => (h.done hm b hb t ht).deep_ (fun hd => by rw [hd]; rfl), h.less, h.le⟩
/-- a new one -/
theorem Swp.put (h : Swp fs f l more deep c0 a) (hb : l[b]? = some none) (hr : Reach fs f b s') (hs : s'.length + 2 * cnt l ≤ 2 * l.length) (hk : k01 s') : Swp fs f (l.set b (some s')) true deep c0 a := by
  obtain ⟨hlt, he⟩ := List.getElem?_eq_some_iff.1 hb
  have hcs := cnt_set hb s'
  have hle := h.le
  have hat : ∀ (x : Nat) t, (l.set b (some s'))[x]? = some (some t) → (x = b ∧ t = s') ∨ l[x]? = some (some t) := by
    intro x t hx
    rw [List.getElem?_set] at hx
    split at hx
    · rename_i hbx
      injection hx with hx
      injection hx with hx
      exact .inl ⟨hbx.symm, hx.symm⟩
    · exact .inr hx
  refine ⟨by rw [List.length_set]; exact h.len, ?_, fun x t hx => ?_, fun x t hx => ?_, fun x t hx => ?_, h.seen, (by intro hm; cases hm), (by intro _; omega), (by omega)⟩
  · rw [List.getElem?_set_ne (by rintro rfl; rw [h.zero] at hb; cases hb)]
    exact h.zero
  · rcases hat x t hx with ⟨rfl, rfl⟩ | hx
    · exact hr
    · exact h.sound x t hx
  · rw [List.length_set]
    rcases hat x t hx with ⟨rfl, rfl⟩ | hx
    · omega
    · have := h.short x t hx; omega
  · rcases hat x t hx with ⟨rfl, rfl⟩ | hx
    · exact hk
    · exact h.kinds x t hx
theorem Swp.next (h : Swp fs f l more deep c0 a) (ha : l[a]? = some (some s)) (hc : f.code[a]? = some i) (hs : afterK fs f i s = some s') (hb : ∀ b ∈ succK a i, l[b]? = some (some s')) (hd : 16 < s'.length → deep = true) : Swp fs f l more deep c0 (a + 1) :=
  ⟨h.len, h.zero, h.sound, h.short, h.kinds, h.seen, (by
    intro hm b hb' t ht
    rcases Nat.lt_succ_iff_lt_or_eq.1 hb' with hlt | rfl
    · exact h.done hm b hlt t ht
    · rw [ha] at ht
      injection ht with ht
      injection ht with ht
      subst ht
      exact ⟨i, s', hc, hs, hb, hd⟩), h.less, h.le⟩
/-- nothing new was come to: the whole answer -/
theorem Swp.sol (h : Swp fs f l false deep c0 f.code.length) : Sol fs f l := by
  have hi : Inv fs f l [] := ⟨h.len, h.zero, h.sound, fun a ha => by simp at ha, fun b s hb _ => by
    obtain ⟨i, s', h1, h2, h3, _⟩ := h.done rfl b (by rw [← h.len]; exact (List.getElem?_eq_some_iff.1 hb).1) s hb
    exact ⟨i, s', h1, h2, h3⟩, h.short⟩
  exact hi.sol
theorem after_long {fs : List Fn} {f : Fn} {i : Ins} {s s' : Stk} (h : afterK fs f i s = some s') (hn : ∀ a, succK a i = []) : s'.length ≤ s.length := by
  have ho : i.op = 24 ∨ i.op = 26 ∨ i.op = 30 := by
    have := hn 0
    unfold succK at this
    split at this
    · cases this
    split at this
    · cases this
    split at this
    · assumption
    · cases this
  have hl : leavesK fs f i (topK s) = [] := by
    unfold leavesK
    rw [if_neg (by omega), if_neg (by omega), if_neg (by omega), if_neg (by omega), if_neg (by omega), if_neg (by omega), if_neg (by omega)]
  unfold afterK at h
  split at h
  · injection h with h
    rw [← h, hl, List.append_nil, List.length_take]
    omega
  · cases h
theorem Swp.deep_ (h : Swp fs f l false deep c0 f.code.length) : deep = true ↔ ∃ a s, Reach fs f a s ∧ 16 < s.length := by
  have hS := h.sol
  constructor
  · intro hd
    obtain ⟨b, s, i, s', hr, hc, hs, hl⟩ := h.seen hd
    rcases he : succK b i with _ | ⟨x, _⟩
    · have hn : ∀ a, succK a i = [] := by
        intro a
        unfold succK at he ⊢
        split
        · rename_i h1; rw [if_pos h1] at he; cases he
        rename_i h1; rw [if_neg h1] at he
        split
        · rename_i h2; rw [if_pos h2] at he; cases he
        rename_i h2; rw [if_neg h2] at he
        split
        · rfl
        · rename_i h3; rw [if_neg h3] at he; cases he
      have := after_long hs hn
      exact ⟨b, s, hr, by omega⟩
    · exact ⟨x, s', .step hr hc hs (by rw [he]; simp), hl⟩
  · rintro ⟨a, s, hr, hl⟩
    cases hr with
    | base => simp at hl
    | step hr hc hs hb =>
      rename_i a0 s0 i0
      have h0 := (hS.iff a0 s0).2 hr
      obtain ⟨i1, s1, h1, h2, h3, h4⟩ := h.done rfl a0 (by rw [← h.len]; exact (List.getElem?_eq_some_iff.1 h0).1) s0 h0
      rw [hc] at h1
      injection h1 with h1
      subst h1
      rw [hs] at h2
      injection h2 with h2
      subst h2
      exact h4 hl
/-- a stack as it stands in the row: '?' where none is known -/
def strO (x : Option Stk) : ByteArray := match x with
  | some s => str (ltr s)
  | none => str [63]
def rowO (l : List (Option Stk)) : List Value := l.map fun x => .string (strO x)
theorem length_rowO (l : List (Option Stk)) : (rowO l).length = l.length := by simp [rowO]
theorem strO_toList (x : Option Stk) : (strO x).toList = match x with
  | some s => ltr s
  | none => [63] := by cases x <;> exact str_toList _
theorem strO_some (s : Stk) : ((strO (some s)).toList == [63]) = false := by
  rw [strO_toList]
  simp only
  rw [Bool.eq_false_iff]
  intro h
  exact ltr_ne (by decide) (by decide) (eq_of_beq h)
theorem strO_none : ((strO none).toList == [63]) = true := by rw [strO_toList]; rfl
/-- the row's answer of one function -/
def StkP (fs : List Fn) (f : Fn) (base : Nat) (w : World) (e : Ending) (w' : World) : Prop := Below w.heap.size w w' ∧
  ((e = .returned (.tuple #[.slice none 0 0, .bool false, .bool false]) ∧ ¬ Fine fs f) ∨
    (∃ A m c l deep, e = .returned (.tuple #[.slice A m c, .bool deep, .bool true]) ∧ m = f.code.length ∧ Sol fs f l ∧ (deep = true ↔ ∃ a s, Reach fs f a s ∧ 16 < s.length) ∧ w'.ownsRow base 9 1 (.slice A m c) m (rowO l)))
end
end Go.Proofs.Ytcgoanfhabjpfaa
