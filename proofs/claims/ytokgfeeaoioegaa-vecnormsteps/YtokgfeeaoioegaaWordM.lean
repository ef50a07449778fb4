/-
  Plain facts on patterns of 64 bits (no program in sight): what masks, shifts and the sign bit come to, as integer arithmetic. No conditions but that a pattern lies in [0, 2^64).
-/
import Derived.Laws.BitsAllLaws
import Derived.Laws.Bits128
namespace Go.Proofs.Ytokgfeeaoioegaa

theorem and_sign (b : Int) (h0 : 0 ≤ b) (h1 : b < 18446744073709551616) : bits .and .u64 b 9223372036854775808 = b / 9223372036854775808 * 9223372036854775808 := by
  rw [u64_and b _ h0 h1 (by decide) (by decide)]
  have := nat_bit 63 b.toNat
  simp only [show (9223372036854775808 : Int).toNat = 2 ^ 63 from rfl]
  rw [this]
  omega
theorem and_quiet (b : Int) (h0 : 0 ≤ b) (h1 : b < 18446744073709551616) : bits .and .u64 b 2251799813685248 = b / 2251799813685248 % 2 * 2251799813685248 := by
  rw [u64_and b _ h0 h1 (by decide) (by decide)]
  have := nat_bit 51 b.toNat
  simp only [show (2251799813685248 : Int).toNat = 2 ^ 51 from rfl]
  rw [this]
  omega
theorem and_exp (b : Int) (h0 : 0 ≤ b) (h1 : b < 18446744073709551616) : bits .and .u64 b 2047 = b % 2048 := by
  rw [u64_and b _ h0 h1 (by decide) (by decide)]
  have := nat_mask11 b.toNat
  simp only [show (2047 : Int).toNat = 2047 from rfl]
  rw [this]
  omega
theorem and_frac (b : Int) (h0 : 0 ≤ b) (h1 : b < 18446744073709551616) : bits .and .u64 b 4503599627370495 = b % 4503599627370496 := by
  rw [u64_and b _ h0 h1 (by decide) (by decide)]
  have := nat_mask52 b.toNat
  simp only [show (4503599627370495 : Int).toNat = 4503599627370495 from rfl]
  rw [this]
  omega
theorem and_exp_i (n : Int) : bits .and .i64 n 2047 = n % 2048 := by
  have h127 : (BitVec.ofInt 64 2047).toNat = 2 ^ 11 - 1 := by decide
  have key : (BitVec.ofInt 64 n &&& BitVec.ofInt 64 2047).toNat = (n % ((2 ^ 64 : Nat) : Int)).toNat % 2 ^ 11 := by
    rw [BitVec.toNat_and, BitVec.toNat_ofInt, h127, Nat.and_two_pow_sub_one_eq_mod]
  show IntKind.i64.wrap ((BitVec.ofInt 64 n &&& BitVec.ofInt 64 2047).toNat : Nat) = n % 2048
  rw [key, IntKind.wrap_i64]
  omega
theorem or_join52 (a b : Int) (h0 : 0 ≤ a) (h1 : a < 18446744073709551616) (g : a % 4503599627370496 = 0) (h2 : 0 ≤ b) (h3 : b < 4503599627370496) : bits .or .u64 a b = a + b := by
  rw [u64_or a b h0 h1 h2 (by omega)]
  rw [nat_join 52 a.toNat b.toNat (by omega) (by omega)]
  omega
theorem or_sign (b : Int) (h0 : 0 ≤ b) (h1 : b < 9223372036854775808) : bits .or .u64 b 9223372036854775808 = b + 9223372036854775808 := by
  rw [u64_or b _ h0 (by omega) (by decide) (by decide), Nat.or_comm]
  rw [nat_join 63 _ b.toNat (by decide) (by omega)]
  omega
theorem or_signs (b s : Int) (h0 : 0 ≤ b) (h1 : b < 9223372036854775808) (h2 : 0 ≤ s) (h3 : s < 2) : bits .or .u64 b (s * 9223372036854775808) = b + s * 9223372036854775808 := by
  have : s = 0 ∨ s = 1 := by omega
  rcases this with rfl | rfl
  · rw [u64_or b _ h0 (by omega) (by decide) (by decide), Nat.or_comm]
    rw [nat_join 63 _ b.toNat (by decide) (by omega)]
    omega
  · exact or_sign b h0 h1
theorem nat_xor_top (c : Nat) (h : c < 2 ^ 63) : c ^^^ 2 ^ 63 = c + 2 ^ 63 := by
  have e : c + 2 ^ 63 = 2 ^ 63 ||| c := by rw [nat_join 63 (2 ^ 63) c (by decide) h]; omega
  rw [e]
  apply Nat.eq_of_testBit_eq
  intro j
  rw [Nat.testBit_xor, Nat.testBit_or, Nat.testBit_two_pow]
  by_cases hj : 63 = j
  · subst hj
    simp [Nat.testBit_lt_two_pow h]
  · simp [hj]
theorem nat_xor_top' (c : Nat) (h : c < 2 ^ 63) : (c + 2 ^ 63) ^^^ 2 ^ 63 = c := by
  rw [← nat_xor_top c h, Nat.xor_assoc, Nat.xor_self, Nat.xor_zero]
theorem xor_sign (b : Int) (h0 : 0 ≤ b) (h1 : b < 18446744073709551616) : bits .xor .u64 b 9223372036854775808 = (b + 9223372036854775808) % 18446744073709551616 := by
  rw [u64_xor b _ h0 h1 (by decide) (by decide)]
  simp only [show (9223372036854775808 : Int).toNat = 2 ^ 63 from rfl]
  by_cases h : b < 9223372036854775808
  · rw [nat_xor_top b.toNat (by omega)]
    omega
  · obtain ⟨c, hc⟩ : ∃ c : Nat, b.toNat = c + 2 ^ 63 := ⟨b.toNat - 2 ^ 63, by omega⟩
    rw [hc, nat_xor_top' c (by omega)]
    omega
theorem andNot_sign (b : Int) (h0 : 0 ≤ b) (h1 : b < 18446744073709551616) : bits .andNot .u64 b 9223372036854775808 = b % 9223372036854775808 := by
  rw [u64_andNot b _ h0 h1 (by decide) (by decide)]
  have := nat_mask63 b.toNat
  simp only [show (18446744073709551615 - (9223372036854775808 : Int).toNat) = 9223372036854775807 from rfl]
  rw [this]
  omega

/-- What a pattern stands for: 1 zero, 2 below the normal ones, 3 normal, 4 infinity, 5 no number. -/
def wKind (b : Int) : Int :=
  if b / 4503599627370496 % 2048 = 0 then (if b % 4503599627370496 = 0 then 1 else 2)
  else if b / 4503599627370496 % 2048 < 2047 then 3
  else if b % 4503599627370496 = 0 then 4 else 5
/-- The least pattern above one in value. -/
def wNext (b : Int) : Int :=
  if wKind b = 5 ∨ b = 9218868437227405312 then b
  else if wKind b = 1 then 1
  else if 9223372036854775808 ≤ b then b - 1 else b + 1
def wFlip (b : Int) : Int := (b + 9223372036854775808) % 18446744073709551616
def wPrev (b : Int) : Int := wFlip (wNext (wFlip b))
def wMant (b : Int) : Int :=
  if wKind b = 3 then 4503599627370496 + b % 4503599627370496 else if wKind b = 2 then b % 4503599627370496 else 0
def wPow (b : Int) : Int :=
  if wKind b = 3 then b / 4503599627370496 % 2048 - 1075 else if wKind b = 2 then -1074 else 0

/-- The pattern of a sign, an exponent's lowest 11 bits and a fraction's lowest 52. -/
def wMake (n : Bool) (x b : Int) : Int := (if n then 9223372036854775808 else 0) + x % 2048 * 4503599627370496 + b % 4503599627370496
theorem wMake_bd (n : Bool) (x b : Int) : 0 ≤ wMake n x b ∧ wMake n x b < 18446744073709551616 := by
  unfold wMake; split <;> omega

theorem wKind_bd (b : Int) : 1 ≤ wKind b ∧ wKind b ≤ 5 := by
  unfold wKind; repeat' split
  all_goals omega
theorem wFlip_bd (b : Int) : 0 ≤ wFlip b ∧ wFlip b < 18446744073709551616 := by
  unfold wFlip; omega
theorem wNext_bd (b : Int) (h0 : 0 ≤ b) (h1 : b < 18446744073709551616) : 0 ≤ wNext b ∧ wNext b < 18446744073709551616 := by
  unfold wNext wKind; repeat' split
  all_goals omega
theorem wKind_nan (b : Int) : wKind b = 5 ↔ 9218868437227405312 < b % 9223372036854775808 := by
  unfold wKind; repeat' split
  all_goals omega
theorem wKind_zero (b : Int) : wKind b = 1 ↔ b % 9223372036854775808 = 0 := by
  unfold wKind; repeat' split
  all_goals omega
theorem wKind_inf (b : Int) : wKind b = 4 ↔ b % 9223372036854775808 = 9218868437227405312 := by
  unfold wKind; repeat' split
  all_goals omega
theorem wNext_eq (b : Int) : wNext b = if 9218868437227405312 < b % 9223372036854775808 ∨ b = 9218868437227405312 then b
    else if b % 9223372036854775808 = 0 then 1 else if 9223372036854775808 ≤ b then b - 1 else b + 1 := by
  unfold wNext
  simp only [wKind_nan, wKind_zero]
theorem wPrev_eq (b : Int) (h0 : 0 ≤ b) (h1 : b < 18446744073709551616) : wPrev b = if 9218868437227405312 < b % 9223372036854775808 ∨ b = 18442240474082181120 then b
    else if b % 9223372036854775808 = 0 then 9223372036854775809 else if 9223372036854775808 ≤ b then b + 1 else b - 1 := by
  unfold wPrev
  rw [wNext_eq]
  unfold wFlip
  repeat' split
  all_goals omega

end Go.Proofs.Ytokgfeeaoioegaa
