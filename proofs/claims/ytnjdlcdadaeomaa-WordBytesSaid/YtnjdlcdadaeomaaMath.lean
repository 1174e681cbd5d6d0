/-
  Plain mathematics on words of 64 bits: what each operation of package word makes, as functions on integers. Nothing here speaks of the program.
-/
import Derived.WalkKit
import Derived.Laws.BitsAllLaws
namespace Go.Proofs.Ytnjdlcdadaeomaa
open Go.RowKit (wrap64)

/-- a word: an integer from 0 to 2^64 - 1 -/
def isW (a : Int) : Prop := 0 ≤ a ∧ a < 18446744073709551616
def wadd (a b : Int) : Int := IntKind.u64.wrap (a + b)
def wsub (a b : Int) : Int := IntKind.u64.wrap (a - b)
def wmul (a b : Int) : Int := IntKind.u64.wrap (a * b)
def wand (a b : Int) : Int := bits BinOp.and IntKind.u64 a b
def wor (a b : Int) : Int := bits BinOp.or IntKind.u64 a b
def wxor (a b : Int) : Int := bits BinOp.xor IntKind.u64 a b
def wdiv (a b : Int) : Int := IntKind.u64.wrap (wrap64 ((wrap64 a).tdiv (wrap64 b)))
def wrem (a b : Int) : Int := IntKind.u64.wrap ((wrap64 a).tmod (wrap64 b))
def wshl (a b : Int) : Int := IntKind.u64.wrap (a * 2 ^ min b.toNat 64)
def wshr (a b : Int) : Int := a / 2 ^ min b.toNat 64
def wsar (a b : Int) : Int := IntKind.u64.wrap (wrap64 a / 2 ^ min b.toNat 64)
def wbit (b : Bool) : Int := if b then 1 else 0
def weq (a b : Int) : Int := wbit (a == b)
def wlt (a b : Int) : Int := wbit (decide (wrap64 a < wrap64 b))
def wbe (a b : Int) : Int := wbit (decide (a < b))

theorem isW_of {a : Int} (h : (Lit.int .u64 a).wf = true) : isW a := by
  simp [Lit.wf, IntKind.min, IntKind.max, IntKind.signed, IntKind.bits] at h
  unfold isW; omega

theorem wrap_u64_eq (n : Int) : IntKind.u64.wrap n = n % 18446744073709551616 := IntKind.wrap_u64 n
theorem wrap64_eq (n : Int) : wrap64 n = (n + 9223372036854775808) % 18446744073709551616 - 9223372036854775808 := by unfold wrap64; rfl

/-! ### Bits -/
theorem nat_and_add_or (a b : Nat) : (a &&& b) + (a ||| b) = a + b := by
  induction a using Nat.strongRecOn generalizing b with
  | _ a ih =>
    by_cases h : a = 0
    · subst h; simp
    · have h1 := ih (a / 2) (by omega) (b / 2)
      have e1 : (a &&& b) / 2 = a / 2 &&& b / 2 := Nat.and_div_two
      have e2 : (a ||| b) / 2 = a / 2 ||| b / 2 := Nat.or_div_two
      have m1 : (a &&& b) % 2 + (a ||| b) % 2 = a % 2 + b % 2 := by
        have x1 : (a &&& b) % 2 = (a % 2) &&& (b % 2) := by simpa using Nat.and_mod_two_pow (a := a) (b := b) (n := 1)
        have x2 : (a ||| b) % 2 = (a % 2) ||| (b % 2) := by simpa using Nat.or_mod_two_pow (a := a) (b := b) (n := 1)
        rw [x1, x2]
        have ha : a % 2 = 0 ∨ a % 2 = 1 := by omega
        have hb : b % 2 = 0 ∨ b % 2 = 1 := by omega
        rcases ha with ha | ha <;> rcases hb with hb | hb <;> rw [ha, hb] <;> rfl
      omega
theorem nat_and_add_xor (a b : Nat) : (a &&& b) + (a ^^^ b) = (a ||| b) := by
  induction a using Nat.strongRecOn generalizing b with
  | _ a ih =>
    by_cases h : a = 0
    · subst h; simp
    · have h1 := ih (a / 2) (by omega) (b / 2)
      have e1 : (a &&& b) / 2 = a / 2 &&& b / 2 := Nat.and_div_two
      have e2 : (a ||| b) / 2 = a / 2 ||| b / 2 := Nat.or_div_two
      have e3 : (a ^^^ b) / 2 = a / 2 ^^^ b / 2 := Nat.xor_div_two
      have m1 : (a &&& b) % 2 + (a ^^^ b) % 2 = (a ||| b) % 2 := by
        have x1 : (a &&& b) % 2 = (a % 2) &&& (b % 2) := by simpa using Nat.and_mod_two_pow (a := a) (b := b) (n := 1)
        have x2 : (a ||| b) % 2 = (a % 2) ||| (b % 2) := by simpa using Nat.or_mod_two_pow (a := a) (b := b) (n := 1)
        have x3 : (a ^^^ b) % 2 = (a % 2) ^^^ (b % 2) := by simpa using Nat.xor_mod_two_pow (a := a) (b := b) (n := 1)
        rw [x1, x2, x3]
        have ha : a % 2 = 0 ∨ a % 2 = 1 := by omega
        have hb : b % 2 = 0 ∨ b % 2 = 1 := by omega
        rcases ha with ha | ha <;> rcases hb with hb | hb <;> rw [ha, hb] <;> rfl
      omega

/-- a word is a natural number below 2^64 -/
theorem isW_nat {a : Int} (h : isW a) : ∃ n : Nat, a = n ∧ n < 18446744073709551616 := ⟨a.toNat, by unfold isW at h; omega, by unfold isW at h; omega⟩
theorem wand_nat {a b : Nat} (ha : a < 18446744073709551616) (hb : b < 18446744073709551616) : wand a b = ((a &&& b : Nat) : Int) := u64_and_nat a b ha hb
theorem wor_nat {a b : Nat} (ha : a < 18446744073709551616) (hb : b < 18446744073709551616) : wor a b = ((a ||| b : Nat) : Int) := u64_or_nat a b ha hb
theorem wxor_nat {a b : Nat} (ha : a < 18446744073709551616) (hb : b < 18446744073709551616) : wxor a b = ((a ^^^ b : Nat) : Int) := u64_xor_nat a b ha hb
theorem xor_lt {a b : Nat} (ha : a < 18446744073709551616) (hb : b < 18446744073709551616) : a ^^^ b < 18446744073709551616 := Nat.xor_lt_two_pow (n := 64) ha hb
theorem and_lt {a b : Nat} (ha : a < 18446744073709551616) : a &&& b < 18446744073709551616 := Nat.lt_of_le_of_lt Nat.and_le_left ha

theorem bits1 {a b : Int} (ha : isW a) (hb : isW b) : (wadd a b == wadd (wand a b) (wor a b)) = true := by
  obtain ⟨x, rfl, hx⟩ := isW_nat ha
  obtain ⟨y, rfl, hy⟩ := isW_nat hb
  rw [wand_nat hx hy, wor_nat hx hy]
  have := nat_and_add_or x y
  unfold wadd
  rw [← Int.natCast_add, ← Int.natCast_add, this]
  simp
theorem bits2 {a b : Int} (ha : isW a) (hb : isW b) : (wxor (wxor a b) b == a) = true := by
  obtain ⟨x, rfl, hx⟩ := isW_nat ha
  obtain ⟨y, rfl, hy⟩ := isW_nat hb
  rw [wxor_nat hx hy, wxor_nat (xor_lt hx hy) hy, Nat.xor_assoc, Nat.xor_self, Nat.xor_zero]
  simp
theorem bits3 {a b : Int} (ha : isW a) (hb : isW b) : (wsub (wor a b) (wand a b) == wxor a b) = true := by
  obtain ⟨x, rfl, hx⟩ := isW_nat ha
  obtain ⟨y, rfl, hy⟩ := isW_nat hb
  rw [wand_nat hx hy, wor_nat hx hy, wxor_nat hx hy]
  have h1 := nat_and_add_xor x y
  have h2 := xor_lt hx hy
  unfold wsub
  rw [wrap_u64_eq]
  simp
  omega
theorem bits4 {a b : Int} (ha : isW a) (hb : isW b) : (bits BinOp.and IntKind.u64 (wand a b) (wxor a b) == 0) = true := by
  obtain ⟨x, rfl, hx⟩ := isW_nat ha
  obtain ⟨y, rfl, hy⟩ := isW_nat hb
  rw [wand_nat hx hy, wxor_nat hx hy, u64_and_nat _ _ (and_lt hx) (xor_lt hx hy)]
  have : (x &&& y) &&& (x ^^^ y) = 0 := by
    apply Nat.eq_of_testBit_eq
    intro i
    simp [Nat.testBit_and, Nat.testBit_xor]
    cases x.testBit i <;> cases y.testBit i <;> simp
  rw [this]
  rfl

/-! ### Sums, differences, quotients -/
theorem sub_add {a b : Int} (ha : isW a) (_hb : isW b) : wsub (wadd a b) b = a := by
  unfold isW at ha
  unfold wsub wadd
  rw [wrap_u64_eq, wrap_u64_eq]
  omega
theorem laws1 {a b : Int} (ha : isW a) (hb : isW b) : (wsub (wadd a b) b != a) = false := by rw [sub_add ha hb]; simp
theorem wrap64_ne {b : Int} (hb : isW b) (h : ¬ b = 0) : ¬ wrap64 b = 0 := by
  unfold isW at hb
  rw [wrap64_eq]
  omega
theorem wrap64_emod (n : Int) : wrap64 n % 18446744073709551616 = n % 18446744073709551616 := by
  rw [wrap64_eq]; omega
theorem laws2 {a b : Int} (ha : isW a) : (wadd (wmul (wdiv a b) b) (wrem a b) == a) = true := by
  have hx := wrap64_emod a
  have hy := wrap64_emod b
  have hm : wadd (wmul (wdiv a b) b) (wrem a b) = a := by
    unfold wadd wmul wdiv wrem
    generalize hX : wrap64 a = x at hx
    generalize hY : wrap64 b = y at hy
    have hq := wrap64_emod (x.tdiv y)
    have hr := Int.tmod_add_mul_tdiv x y
    generalize x.tdiv y = q at hq hr
    generalize x.tmod y = r at hr
    have h1 : (q % 18446744073709551616 * b) % 18446744073709551616 = (q * y) % 18446744073709551616 := by
      rw [Int.mul_emod, Int.emod_emod, ← hy, ← Int.mul_emod]
    rw [wrap_u64_eq, wrap_u64_eq, wrap_u64_eq, wrap_u64_eq, hq, Int.emod_add_emod, Int.add_emod_emod, ← Int.emod_add_emod, h1, Int.emod_add_emod]
    have e : q * y + r = x := by rw [Int.mul_comm, Int.add_comm]; exact hr
    rw [e, hx]
    unfold isW at ha
    omega
  rw [hm]; simp

/-! ### Orders -/
theorem wbit_le (b : Bool) : wbit b ≤ 1 := by cases b <;> decide
theorem wlt_le (a b : Int) : wlt a b ≤ 1 := wbit_le _
theorem wbe_le (a b : Int) : wbe a b ≤ 1 := wbit_le _
theorem wbit_one (b : Bool) : wbit b = 1 ↔ b = true := by cases b <;> decide
theorem wlt_one (a b : Int) : wlt a b = 1 ↔ wrap64 a < wrap64 b := by unfold wlt; rw [wbit_one]; simp
theorem wbe_one (a b : Int) : wbe a b = 1 ↔ a < b := by unfold wbe; rw [wbit_one]; simp
theorem wlt_trans (a b c : Int) : ¬ (wlt a b = 1 ∧ wlt b c = 1 ∧ ¬ wlt a c = 1) := by
  rw [wlt_one, wlt_one, wlt_one]; omega
theorem wbe_trans (a b c : Int) : ¬ (wbe a b = 1 ∧ wbe b c = 1 ∧ ¬ wbe a c = 1) := by
  rw [wbe_one, wbe_one, wbe_one]; omega
theorem wbit_iff {p q : Prop} [Decidable p] [Decidable q] (h : p ↔ q) : wbit (decide p) = wbit (decide q) := by
  congr 1; exact decide_eq_decide.mpr h
theorem xor_top (x : Nat) (hx : x < 18446744073709551616) : x ^^^ 9223372036854775808 = (x + 9223372036854775808) % 18446744073709551616 := by
  have h : x ^^^ 9223372036854775808 = ((BitVec.ofNat 64 x) ^^^ (BitVec.ofNat 64 9223372036854775808)).toNat := by
    rw [BitVec.toNat_xor, BitVec.toNat_ofNat, BitVec.toNat_ofNat, Nat.mod_eq_of_lt hx]
  have h2 : (BitVec.ofNat 64 x) ^^^ (BitVec.ofNat 64 9223372036854775808) = BitVec.ofNat 64 x + BitVec.ofNat 64 9223372036854775808 := by
    have e := nat_and_add_xor x 9223372036854775808
    have e2 := nat_and_add_or x 9223372036854775808
    apply BitVec.eq_of_toNat_eq
    rw [BitVec.toNat_xor, BitVec.toNat_add, BitVec.toNat_ofNat, BitVec.toNat_ofNat, Nat.mod_eq_of_lt hx]
    have hand : x &&& 9223372036854775808 = 0 ∨ x &&& 9223372036854775808 = 9223372036854775808 := by
      have e63 : (2 : Nat) ^ 63 = 9223372036854775808 := by decide
      rw [← e63]
      cases hb : x.testBit 63
      · left
        apply Nat.eq_of_testBit_eq
        intro i
        rw [Nat.testBit_and, Nat.testBit_two_pow]
        by_cases h : 63 = i
        · subst h; simp [hb]
        · simp [h]
      · right
        apply Nat.eq_of_testBit_eq
        intro i
        rw [Nat.testBit_and, Nat.testBit_two_pow]
        by_cases h : 63 = i
        · subst h; simp [hb]
        · simp [h]
    have hlt := xor_lt hx (by decide : 9223372036854775808 < 18446744073709551616)
    simp only [Nat.reducePow, Nat.reduceMod]
    omega
  rw [h, h2, BitVec.toNat_add, BitVec.toNat_ofNat, BitVec.toNat_ofNat, Nat.mod_eq_of_lt hx]
theorem orders3 {a b : Int} (ha : isW a) (hb : isW b) : (wlt a b == wbe (bits BinOp.xor IntKind.u64 a 9223372036854775808) (bits BinOp.xor IntKind.u64 b 9223372036854775808)) = true := by
  obtain ⟨x, rfl, hx⟩ := isW_nat ha
  obtain ⟨y, rfl, hy⟩ := isW_nat hb
  have e1 : bits BinOp.xor IntKind.u64 (x : Int) 9223372036854775808 = ((x ^^^ 9223372036854775808 : Nat) : Int) := u64_xor_nat x 9223372036854775808 hx (by decide)
  have e2 : bits BinOp.xor IntKind.u64 (y : Int) 9223372036854775808 = ((y ^^^ 9223372036854775808 : Nat) : Int) := u64_xor_nat y 9223372036854775808 hy (by decide)
  rw [e1, e2, xor_top x hx, xor_top y hy]
  have h : wlt x y = wbe (((x + 9223372036854775808) % 18446744073709551616 : Nat) : Int) (((y + 9223372036854775808) % 18446744073709551616 : Nat) : Int) := by
    unfold wlt wbe
    apply wbit_iff
    rw [wrap64_eq, wrap64_eq]
    omega
  rw [h]; simp
theorem wrap64_inj {a b : Int} (ha : isW a) (hb : isW b) : wrap64 a = wrap64 b ↔ a = b := by
  unfold isW at ha hb
  rw [wrap64_eq, wrap64_eq]
  omega
theorem wbit_cases (p : Prop) [Decidable p] : (p ∧ wbit (decide p) = 1) ∨ (¬ p ∧ wbit (decide p) = 0) := by
  by_cases h : p
  · left; exact ⟨h, by simp [wbit, h]⟩
  · right; exact ⟨h, by simp [wbit, h]⟩
theorem weq_dec (a b : Int) : weq a b = wbit (decide (a = b)) := by
  unfold weq
  congr 1
theorem laws3 {a b : Int} (ha : isW a) (hb : isW b) : (IntKind.u64.wrap (IntKind.u64.wrap (wlt a b + wlt b a) + weq a b) != 1) = false := by
  have hi := wrap64_inj ha hb
  have h : IntKind.u64.wrap (IntKind.u64.wrap (wlt a b + wlt b a) + weq a b) = 1 := by
    rw [weq_dec, wrap_u64_eq, wrap_u64_eq]
    unfold wlt
    rcases wbit_cases (wrap64 a < wrap64 b) with ⟨h1, e1⟩ | ⟨h1, e1⟩ <;> rcases wbit_cases (wrap64 b < wrap64 a) with ⟨h2, e2⟩ | ⟨h2, e2⟩ <;> rcases wbit_cases (a = b) with ⟨h3, e3⟩ | ⟨h3, e3⟩ <;> rw [e1, e2, e3] <;> omega
  rw [h]; rfl
theorem laws4 (a b : Int) : (IntKind.u64.wrap (IntKind.u64.wrap (wbe a b + wbe b a) + weq a b) != 1) = false := by
  have h : IntKind.u64.wrap (IntKind.u64.wrap (wbe a b + wbe b a) + weq a b) = 1 := by
    rw [weq_dec, wrap_u64_eq, wrap_u64_eq]
    unfold wbe
    rcases wbit_cases (a < b) with ⟨h1, e1⟩ | ⟨h1, e1⟩ <;> rcases wbit_cases (b < a) with ⟨h2, e2⟩ | ⟨h2, e2⟩ <;> rcases wbit_cases (a = b) with ⟨h3, e3⟩ | ⟨h3, e3⟩ <;> rw [e1, e2, e3] <;> omega
  rw [h]; rfl

/-! ### Shifts -/
theorem shl_eq (a : Int) (p : Nat) : wshl a p = a * 2 ^ min p 64 % 18446744073709551616 := by unfold wshl; rw [wrap_u64_eq]; rfl
theorem shl_big (a : Int) (p : Nat) (h : 64 ≤ p) : wshl a p = 0 := by
  rw [shl_eq, Nat.min_eq_right h]
  exact Int.mul_emod_left a 18446744073709551616
theorem mul_pow_big (a : Int) (p : Nat) (h : 64 ≤ p) : a * 2 ^ p % 18446744073709551616 = 0 := by
  obtain ⟨d, rfl⟩ := Nat.exists_eq_add_of_le h
  have e : a * 2 ^ (64 + d) = a * 2 ^ d * 18446744073709551616 := by rw [Int.pow_add, ← Int.mul_assoc, Int.mul_right_comm]; rfl
  rw [e]; exact Int.mul_emod_left _ _
theorem shl_any (a : Int) (p : Nat) : wshl a p = a * 2 ^ p % 18446744073709551616 := by
  rcases Nat.lt_or_ge p 64 with h | h
  · rw [shl_eq, Nat.min_eq_left (by omega)]
  · rw [shl_big a p h, mul_pow_big a p h]
theorem emod_mul (u v m : Int) : u % m * v % m = u * v % m := by rw [Int.mul_emod, Int.emod_emod, ← Int.mul_emod]
theorem shl_shl (a : Int) (p q : Nat) : wshl (wshl a p) q = wshl a (p + q : Nat) := by
  rw [shl_any, shl_any, shl_any, emod_mul, Int.mul_assoc, ← Int.pow_add]
theorem shr_any {a : Int} (ha : isW a) (p : Nat) : wshr a p = a / 2 ^ p := by
  unfold wshr
  show a / 2 ^ min p 64 = _
  rcases Nat.lt_or_ge p 64 with h | h
  · rw [Nat.min_eq_left (by omega)]
  · obtain ⟨d, rfl⟩ := Nat.exists_eq_add_of_le h
    rw [Nat.min_eq_right h, Int.pow_add, ← Int.ediv_ediv_of_nonneg (by decide)]
    unfold isW at ha
    have e : a / (2 : Int) ^ 64 = 0 := by
      have : (2 : Int) ^ 64 = 18446744073709551616 := by decide
      rw [this]; omega
    rw [e, Int.zero_ediv]
theorem pow_pos2 (p : Nat) : (0 : Int) < 2 ^ p := Int.pow_pos (by decide)
theorem isW_ediv {a : Int} (ha : isW a) (p : Nat) : isW (a / 2 ^ p) := by
  unfold isW at ha ⊢
  have h1 := Int.ediv_nonneg ha.1 (Int.le_of_lt (pow_pos2 p))
  have h2 := Int.ediv_le_self (2 ^ p) ha.1
  omega
theorem shr_shr {a : Int} (ha : isW a) (p q : Nat) : wshr (wshr a p) q = wshr a (p + q : Nat) := by
  rw [shr_any ha p, shr_any (isW_ediv ha p), shr_any ha, Int.pow_add, ← Int.ediv_ediv_of_nonneg (Int.le_of_lt (pow_pos2 p))]
theorem sar_small {s : Int} (hs : -9223372036854775808 ≤ s ∧ s < 9223372036854775808) (p : Nat) : s / 2 ^ min p 64 = s / 2 ^ p := by
  rcases Nat.lt_or_ge p 64 with h | h
  · rw [Nat.min_eq_left (by omega)]
  · obtain ⟨d, rfl⟩ := Nat.exists_eq_add_of_le h
    rw [Nat.min_eq_right h, Int.pow_add, ← Int.ediv_ediv_of_nonneg (by decide)]
    have e : (2 : Int) ^ 64 = 18446744073709551616 := by decide
    rw [e]
    have hd := pow_pos2 d
    rcases (by omega : s / 18446744073709551616 = 0 ∨ s / 18446744073709551616 = -1) with h0 | h0
    · rw [h0, Int.zero_ediv]
    · rw [h0]
      have : (-1 : Int) / 2 ^ d = -1 := by
        apply (Int.ediv_eq_iff_of_pos hd).2
        constructor <;> omega
      rw [this]
theorem ediv_range {s : Int} (hs : -9223372036854775808 ≤ s ∧ s < 9223372036854775808) (p : Nat) : -9223372036854775808 ≤ s / 2 ^ p ∧ s / 2 ^ p < 9223372036854775808 := by
  have hp := pow_pos2 p
  constructor
  · apply (Int.le_ediv_iff_mul_le hp).2
    have : (1 : Int) ≤ 2 ^ p := hp
    have h2 : -9223372036854775808 * (2 : Int) ^ p ≤ -9223372036854775808 * 1 := by
      rw [Int.neg_mul, Int.neg_mul]
      apply Int.neg_le_neg
      exact Int.mul_le_mul_of_nonneg_left this (by decide)
    omega
  · apply Int.ediv_lt_of_lt_mul hp
    have : (1 : Int) ≤ 2 ^ p := hp
    have h2 : 9223372036854775808 * 1 ≤ 9223372036854775808 * (2 : Int) ^ p := Int.mul_le_mul_of_nonneg_left this (by decide)
    omega
theorem wrap64_range (n : Int) : -9223372036854775808 ≤ wrap64 n ∧ wrap64 n < 9223372036854775808 := by rw [wrap64_eq]; omega
theorem wrap64_back {s : Int} (hs : -9223372036854775808 ≤ s ∧ s < 9223372036854775808) : wrap64 (IntKind.u64.wrap s) = s := by
  rw [wrap64_eq, wrap_u64_eq]; omega
theorem sar_any (a : Int) (p : Nat) : wsar a p = IntKind.u64.wrap (wrap64 a / 2 ^ p) := by
  unfold wsar
  rw [← sar_small (wrap64_range a) p]
  rfl
theorem sar_sar (a : Int) (p q : Nat) : wsar (wsar a p) q = wsar a (p + q : Nat) := by
  rw [sar_any a p, sar_any, wrap64_back (ediv_range (wrap64_range a) p), sar_any, Int.pow_add, ← Int.ediv_ediv_of_nonneg (Int.le_of_lt (pow_pos2 p))]
theorem shl_shr {a : Int} (ha : isW a) (p : Nat) (h : p ≤ 63) : (wshr (wshl a p) p == bits BinOp.and IntKind.u64 a (18446744073709551615 / 2 ^ (p : Int).toNat)) = true := by
  obtain ⟨x, rfl, hx⟩ := isW_nat ha
  have hw : isW (wshl x p) := by
    rw [shl_any]
    constructor
    · exact Int.emod_nonneg _ (by decide)
    · exact Int.emod_lt_of_pos _ (by decide)
  have hsplit : (18446744073709551616 : Nat) = 2 ^ (64 - p) * 2 ^ p := by
    rw [← Nat.pow_add, Nat.sub_add_cancel (by omega)]
  have h1 : (wshr (wshl x p) p) = ((x % 2 ^ (64 - p) : Nat) : Int) := by
    rw [shr_any hw, shl_any]
    have e : ((x : Int) * 2 ^ p % 18446744073709551616) / 2 ^ p = ((x * 2 ^ p % 18446744073709551616 / 2 ^ p : Nat) : Int) := by
      rw [Int.natCast_ediv, Int.natCast_emod, Int.natCast_mul, Int.natCast_pow]; rfl
    rw [e, hsplit, Nat.mul_mod_mul_right, Nat.mul_div_cancel _ (Nat.two_pow_pos p)]
  have h2 : (18446744073709551615 / 2 ^ (p : Int).toNat : Int) = ((2 ^ (64 - p) - 1 : Nat) : Int) := by
    have e : (18446744073709551615 / 2 ^ (p : Int).toNat : Int) = ((18446744073709551615 / 2 ^ p : Nat) : Int) := by
      rw [Int.natCast_ediv, Int.natCast_pow]; rfl
    rw [e]
    congr 1
    have hp := Nat.two_pow_pos p
    have hq := Nat.two_pow_pos (64 - p)
    apply Nat.div_eq_of_lt_le
    · rw [Nat.sub_mul, ← hsplit]; omega
    · rw [Nat.add_mul, Nat.sub_mul, ← hsplit]; omega
  have hlt : 2 ^ (64 - p) - 1 < 18446744073709551616 := by
    have : 2 ^ (64 - p) ≤ 2 ^ 64 := Nat.pow_le_pow_right (by decide) (by omega)
    have e64 : 2 ^ 64 = 18446744073709551616 := by decide
    have hq := Nat.two_pow_pos (64 - p)
    omega
  rw [h1, h2, u64_and_nat x _ hx hlt, Nat.and_two_pow_sub_one_eq_mod]
  simp

/-! ### Turned bits -/
theorem xor_max (x : Nat) (hx : x < 18446744073709551616) : 18446744073709551615 ^^^ x = 18446744073709551615 - x := by
  have h1 := nat_and_add_xor 18446744073709551615 x
  have h2 := nat_and_add_or 18446744073709551615 x
  have h3 : 18446744073709551615 &&& x = x := by
    rw [Nat.and_comm]
    have e : x &&& (2 ^ 64 - 1) = x % 2 ^ 64 := Nat.and_two_pow_sub_one_eq_mod x 64
    have e64 : (2 : Nat) ^ 64 = 18446744073709551616 := by decide
    rw [e64] at e
    rw [show (18446744073709551615 : Nat) = 18446744073709551616 - 1 from rfl, e]
    omega
  omega
theorem unot {a : Int} (ha : isW a) : bits BinOp.xor IntKind.u64 IntKind.u64.max a = 18446744073709551615 - a := by
  obtain ⟨x, rfl, hx⟩ := isW_nat ha
  have e : IntKind.u64.max = ((18446744073709551615 : Nat) : Int) := by decide
  rw [e, u64_xor_nat _ _ (by decide) hx, xor_max x hx]
  omega

/-! ### Quotients by sizes and signs -/
def wneg (a : Int) : Bool := decide (9223372036854775808 ≤ a)
def wabs (a : Int) : Int := if 9223372036854775808 ≤ a then 18446744073709551616 - a else a
theorem wabs_range {a : Int} (ha : isW a) : 0 ≤ wabs a ∧ wabs a ≤ 9223372036854775808 := by
  unfold isW at ha
  unfold wabs
  split <;> omega
theorem wabs_pos {a : Int} (ha : isW a) (h : ¬ a = 0) : 0 < wabs a := by
  unfold isW at ha
  unfold wabs
  split <;> omega
theorem wrap64_neg {a : Int} (ha : isW a) (h : wneg a = true) : wrap64 a = -(wabs a) := by
  unfold isW at ha
  simp only [wneg, decide_eq_true_eq] at h
  unfold wabs
  rw [if_pos h, wrap64_eq]
  omega
theorem wrap64_pos {a : Int} (ha : isW a) (h : wneg a = false) : wrap64 a = wabs a := by
  unfold isW at ha
  simp only [wneg, decide_eq_false_iff_not] at h
  unfold wabs
  rw [if_neg h, wrap64_eq]
  omega
theorem wdiv_mod (a b : Int) : wdiv a b = (wrap64 a).tdiv (wrap64 b) % 18446744073709551616 := by
  unfold wdiv
  rw [wrap_u64_eq, wrap64_emod]
theorem tdiv_abs {x y : Int} (hx : 0 ≤ x) : x.tdiv y = x / y := Int.tdiv_eq_ediv_of_nonneg hx
theorem quo_small {x y : Int} (hx : 0 ≤ x ∧ x ≤ 9223372036854775808) (_hy : 0 < y) : 0 ≤ x / y ∧ x / y ≤ 9223372036854775808 := by
  have h1 := Int.ediv_nonneg hx.1 (Int.le_of_lt _hy)
  have h2 := Int.ediv_le_self y hx.1
  omega
theorem rem_small {x y : Int} (hx : 0 ≤ x ∧ x ≤ 9223372036854775808) (hy : 0 < y) : 0 ≤ x % y ∧ x % y ≤ 9223372036854775808 := by
  have h1 := Int.emod_nonneg x (Int.ne_of_gt hy)
  have h2 : x % y ≤ x := by
    have h3 := Int.mul_ediv_add_emod x y
    have h4 : 0 ≤ y * (x / y) := Int.mul_nonneg (Int.le_of_lt hy) (Int.ediv_nonneg hx.1 (Int.le_of_lt hy))
    omega
  omega
theorem wdiv_pp {a b : Int} (ha : isW a) (hb : isW b) (na : wneg a = false) (nb : wneg b = false) : wdiv a b = (wabs a / wabs b) % 18446744073709551616 := by
  rw [wdiv_mod, wrap64_pos ha na, wrap64_pos hb nb, tdiv_abs (wabs_range ha).1]
theorem wdiv_nn {a b : Int} (ha : isW a) (hb : isW b) (na : wneg a = true) (nb : wneg b = true) : wdiv a b = (wabs a / wabs b) % 18446744073709551616 := by
  rw [wdiv_mod, wrap64_neg ha na, wrap64_neg hb nb, Int.neg_tdiv, Int.tdiv_neg, Int.neg_neg, tdiv_abs (wabs_range ha).1]
theorem wdiv_np {a b : Int} (ha : isW a) (hb : isW b) (na : wneg a = true) (nb : wneg b = false) : wdiv a b = (-(wabs a / wabs b)) % 18446744073709551616 := by
  rw [wdiv_mod, wrap64_neg ha na, wrap64_pos hb nb, Int.neg_tdiv, tdiv_abs (wabs_range ha).1]
theorem wdiv_pn {a b : Int} (ha : isW a) (hb : isW b) (na : wneg a = false) (nb : wneg b = true) : wdiv a b = (-(wabs a / wabs b)) % 18446744073709551616 := by
  rw [wdiv_mod, wrap64_pos ha na, wrap64_neg hb nb, Int.tdiv_neg, tdiv_abs (wabs_range ha).1]
theorem tmod_abs {x y : Int} (hx : 0 ≤ x) : x.tmod y = x % y := Int.tmod_eq_emod_of_nonneg hx
theorem wrem_p {a b : Int} (ha : isW a) (hb : isW b) (na : wneg a = false) : wrem a b = (wabs a % wabs b) % 18446744073709551616 := by
  unfold wrem
  rw [wrap_u64_eq, wrap64_pos ha na]
  cases nb : wneg b
  · rw [wrap64_pos hb nb, tmod_abs (wabs_range ha).1]
  · rw [wrap64_neg hb nb, Int.tmod_neg, tmod_abs (wabs_range ha).1]
theorem wrem_n {a b : Int} (ha : isW a) (hb : isW b) (na : wneg a = true) : wrem a b = (-(wabs a % wabs b)) % 18446744073709551616 := by
  unfold wrem
  rw [wrap_u64_eq, wrap64_neg ha na, Int.neg_tmod]
  cases nb : wneg b
  · rw [wrap64_pos hb nb, tmod_abs (wabs_range ha).1]
  · rw [wrap64_neg hb nb, Int.tmod_neg, tmod_abs (wabs_range ha).1]
theorem turned {q : Int} (hq : 0 ≤ q ∧ q ≤ 9223372036854775808) : IntKind.u64.wrap (bits BinOp.xor IntKind.u64 IntKind.u64.max q + 1) = (-q) % 18446744073709551616 := by
  rw [unot ⟨hq.1, by omega⟩, wrap_u64_eq]
  omega
theorem rest_eq {A B : Int} (hA : 0 ≤ A ∧ A ≤ 9223372036854775808) (hB : 0 < B) : IntKind.u64.wrap (A - IntKind.u64.wrap (A / B * B)) = A % B := by
  have h1 := Int.mul_ediv_add_emod A B
  have h2 := rem_small hA hB
  have h3 : 0 ≤ A / B * B := Int.mul_nonneg (Int.ediv_nonneg hA.1 (Int.le_of_lt hB)) (Int.le_of_lt hB)
  rw [Int.mul_comm] at h1
  rw [wrap_u64_eq, wrap_u64_eq]
  generalize A / B * B = p at h1 h3
  omega

/-! ### A shift that keeps the sign, by adding bits from above -/
theorem pow_le {k n : Nat} (h : k ≤ n) : (2 : Int) ^ k ≤ 2 ^ n := by exact_mod_cast Nat.pow_le_pow_right (by decide : 0 < 2) h
/-- what the document's answer has gathered when k bits have been set from above -/
def sarAcc (a : Int) (n k : Nat) : Int := a / 2 ^ n + (18446744073709551616 - 2 ^ (64 - k))
theorem sarAcc_zero (a : Int) (n : Nat) : a / 2 ^ n = sarAcc a n 0 := by
  unfold sarAcc
  have : (2 : Int) ^ (64 - 0) = 18446744073709551616 := by decide
  rw [this]; omega
theorem ediv_small {a : Int} (ha : isW a) (n : Nat) (hn : n ≤ 64) : a / 2 ^ n < 2 ^ (64 - n) := by
  apply Int.ediv_lt_of_lt_mul (pow_pos2 n)
  rw [← Int.pow_add, Nat.sub_add_cancel hn]
  unfold isW at ha
  have : (2 : Int) ^ 64 = 18446744073709551616 := by decide
  rw [this]; omega
theorem sarAcc_step {a : Int} (ha : isW a) (n k : Nat) (hk : k < n) (hn : n ≤ 63) : IntKind.u64.wrap (sarAcc a n k + 2 ^ (63 - k)) = sarAcc a n (k + 1) := by
  unfold sarAcc
  have h1 : (2 : Int) ^ (64 - k) = 2 ^ (63 - k) + 2 ^ (63 - k) := by
    have : 64 - k = (63 - k) + 1 := by omega
    rw [this, Int.pow_succ]; omega
  have h2 : 64 - (k + 1) = 63 - k := by omega
  have h3 := ediv_small ha n (by omega)
  have h4 : (2 : Int) ^ (64 - n) ≤ 2 ^ (63 - k) := pow_le (by omega)
  have h5 := isW_ediv ha n
  have h6 : (2 : Int) ^ (63 - k) ≤ 2 ^ 63 := pow_le (by omega)
  have h7 : (2 : Int) ^ 63 = 9223372036854775808 := by decide
  rw [h7] at h6
  rw [h1, h2, wrap_u64_eq]
  unfold isW at h5
  generalize a / 2 ^ n = q at h3 h5
  generalize (2 : Int) ^ (63 - k) = p at h4 h6
  generalize (2 : Int) ^ (64 - n) = r at h3 h4
  omega
theorem sarAcc_range {a : Int} (ha : isW a) (n k : Nat) (hk : k ≤ n) (hn : n ≤ 63) : isW (sarAcc a n k) := by
  unfold sarAcc
  have h3 := ediv_small ha n (by omega)
  have h4 : (2 : Int) ^ (64 - n) ≤ 2 ^ (64 - k) := pow_le (by omega)
  have h5 := isW_ediv ha n
  have h6 : (2 : Int) ^ (64 - k) ≤ 2 ^ 64 := pow_le (by omega)
  have h7 : (2 : Int) ^ 64 = 18446744073709551616 := by decide
  rw [h7] at h6
  unfold isW at h5 ⊢
  generalize a / 2 ^ n = q at h3 h5
  generalize (2 : Int) ^ (64 - k) = p at h4 h6
  omega
theorem sar_neg {a : Int} (ha : isW a) (hneg : wneg a = true) (n : Nat) (hn : n ≤ 63) : sarAcc a n n = wsar a n := by
  rw [sar_any]
  simp only [wneg, decide_eq_true_eq] at hneg
  have hw : wrap64 a = a - 18446744073709551616 := by
    unfold isW at ha
    rw [wrap64_eq]; omega
  have h1 : (18446744073709551616 : Int) = 2 ^ (64 - n) * 2 ^ n := by
    rw [← Int.pow_add, Nat.sub_add_cancel (by omega)]; decide
  have h2 : (a - 18446744073709551616) / 2 ^ n = a / 2 ^ n - 2 ^ (64 - n) := by
    rw [h1, Int.sub_mul_ediv_right _ _ (Int.ne_of_gt (pow_pos2 n))]
  have h3 := sarAcc_range ha n n (Nat.le_refl _) hn
  rw [hw, h2, wrap_u64_eq]
  unfold sarAcc at h3 ⊢
  unfold isW at h3
  generalize a / 2 ^ n = q at h3
  generalize (2 : Int) ^ (64 - n) = p at h3
  omega
theorem sar_pos {a : Int} (ha : isW a) (hneg : wneg a = false) (n : Nat) : a / 2 ^ n = wsar a n := by
  rw [sar_any]
  simp only [wneg, decide_eq_false_iff_not] at hneg
  have hw : wrap64 a = a := by
    unfold isW at ha
    rw [wrap64_eq]; omega
  have h5 := isW_ediv ha n
  rw [hw, wrap_u64_eq]
  unfold isW at h5
  omega
theorem sar_big {a b : Int} (hb : 63 < b) : wsar a 63 = wsar a b := by
  have h1 : wsar a ((63 : Nat) : Int) = wsar a 63 := rfl
  obtain ⟨m, hm⟩ : ∃ m : Nat, b = m := ⟨b.toNat, by omega⟩
  subst hm
  rw [← h1, sar_any, sar_any]
  have hr := wrap64_range a
  obtain ⟨d, rfl⟩ := Nat.exists_eq_add_of_le (show 63 ≤ m by omega)
  rw [Int.pow_add, ← Int.ediv_ediv_of_nonneg (by decide)]
  have e : (2 : Int) ^ 63 = 9223372036854775808 := by decide
  rw [e]
  have hd := pow_pos2 d
  rcases (by omega : wrap64 a / 9223372036854775808 = 0 ∨ wrap64 a / 9223372036854775808 = -1) with h0 | h0
  · rw [h0, Int.zero_ediv]
  · rw [h0]
    have : (-1 : Int) / 2 ^ d = -1 := by
      apply (Int.ediv_eq_iff_of_pos hd).2
      constructor <;> omega
    rw [this]
theorem shl_zero {a b : Int} (hb : 63 < b) : wshl a b = 0 := by
  obtain ⟨m, hm⟩ : ∃ m : Nat, b = m := ⟨b.toNat, by omega⟩
  subst hm
  exact shl_big a m (by omega)
theorem shr_zero {a b : Int} (ha : isW a) (hb : 63 < b) : wshr a b = 0 := by
  obtain ⟨m, hm⟩ : ∃ m : Nat, b = m := ⟨b.toNat, by omega⟩
  subst hm
  rw [shr_any ha]
  obtain ⟨d, rfl⟩ := Nat.exists_eq_add_of_le (show 64 ≤ m by omega)
  rw [Int.pow_add, ← Int.ediv_ediv_of_nonneg (by decide)]
  unfold isW at ha
  have e : a / (2 : Int) ^ 64 = 0 := by
    have : (2 : Int) ^ 64 = 18446744073709551616 := by decide
    rw [this]; omega
  rw [e, Int.zero_ediv]
theorem shr_t {a : Int} (ha : isW a) (n : Nat) : IntKind.u64.wrap (a.tdiv (2 ^ n)) = a / 2 ^ n := by
  rw [Int.tdiv_eq_ediv_of_nonneg ha.1, wrap_u64_eq]
  have h5 := isW_ediv ha n
  unfold isW at h5
  omega
theorem shr_t63 {a : Int} (ha : isW a) : IntKind.u64.wrap (a.tdiv 9223372036854775808) = a / 2 ^ 63 := by
  have h := shr_t ha 63
  have e : (2 : Int) ^ 63 = 9223372036854775808 := by decide
  rw [e] at h ⊢
  exact h
end Go.Proofs.Ytnjdlcdadaeomaa
