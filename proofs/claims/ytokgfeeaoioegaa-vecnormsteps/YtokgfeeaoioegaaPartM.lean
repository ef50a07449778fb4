/-
  What the parts of a pattern tell of what it stands for (plain mathematics, no program in sight).
-/
import Derived.Test.YtokgfeeaoioegaaWordM
import Derived.Test.YtokgfeeaoioegaaRoundR
namespace Go.Proofs.Ytokgfeeaoioegaa
set_option linter.unusedVariables false

/-- A pattern without its sign. -/
def mag (b : Int) : Nat := (b % 9223372036854775808).toNat
theorem mag_lt (b : Int) : mag b < 9223372036854775808 := by unfold mag; omega
theorem parts_bd (b : Int) : 0 ≤ wMant b ∧ wMant b < 9007199254740992 ∧ -1074 ≤ wPow b ∧ wPow b ≤ 971 := by
  unfold wMant wPow wKind
  repeat' split
  all_goals omega
theorem fin_mag (b : Int) : (b / 4503599627370496 % 2048 < 2047) ↔ mag b < 9218868437227405312 := by unfold mag; omega
theorem parts_V (b : Int) (hf : mag b < 9218868437227405312) : V (mag b) = (wMant b).toNat * 2 ^ (wPow b + 1074).toNat := by
  unfold mag at *
  have hk : wKind b = 1 ∨ wKind b = 2 ∨ wKind b = 3 := by
    unfold wKind; repeat' split
    all_goals omega
  rcases hk with hk | hk | hk
  · have := (wKind_zero b).1 hk
    unfold wMant
    rw [hk, if_neg (by decide), if_neg (by decide), this]
    exact V_zero.trans (Nat.zero_mul _).symm
  · have h2 : b / 4503599627370496 % 2048 = 0 ∧ b % 4503599627370496 ≠ 0 := by
      unfold wKind at hk; repeat' split at hk
      all_goals omega
    unfold wMant wPow
    rw [hk, if_neg (by decide), if_pos rfl, if_neg (by decide), if_pos rfl, show ((-1074 : Int) + 1074).toNat = 0 from rfl, Nat.pow_zero, Nat.mul_one]
    unfold V
    rw [if_pos (by omega)]
    omega
  · have h2 : b / 4503599627370496 % 2048 ≠ 0 ∧ b / 4503599627370496 % 2048 < 2047 := by
      unfold wKind at hk; repeat' split at hk
      all_goals omega
    unfold wMant wPow
    rw [hk, if_pos rfl, if_pos rfl]
    unfold V
    rw [if_neg (by omega)]
    congr 1
    · omega
    · congr 1
      omega
theorem num_V (p : Nat) (hp : p < 9218868437227405312) : numP (V p) (-1074) = p ∧ flagP (V p) (-1074) = 0 := by
  unfold numP flagP
  rw [patP_V, if_neg (by omega)]
  refine ⟨by omega, ?_⟩
  rcases lostP_V p with h | h
  · rw [h, if_neg (by simp)]
  · rw [h, if_neg (by simp)]
theorem parts_num (b : Int) (hf : mag b < 9218868437227405312) : numP (wMant b).toNat (wPow b) = mag b ∧ flagP (wMant b).toNat (wPow b) = 0 := by
  obtain ⟨h1, h2, h3, h4⟩ := parts_bd b
  obtain ⟨a, c⟩ := num_V (mag b) hf
  rw [parts_V b hf] at a c
  rw [numP_scale] at a
  rw [flagP_scale] at c
  rw [show (-1074 : Int) + ((wPow b + 1074).toNat : Int) = wPow b by omega] at a c
  exact ⟨a, c⟩
theorem whole_sign (b : Int) (h0 : 0 ≤ b) (h1 : b < 18446744073709551616) : b = sgnB (decide (9223372036854775808 ≤ b)) + (mag b : Int) := by
  unfold sgnB mag
  by_cases h : 9223372036854775808 ≤ b
  · rw [decide_eq_true h, if_pos rfl]; omega
  · rw [decide_eq_false h, if_neg (by decide)]; omega
theorem and_63_i (n : Int) : bits .and .i64 n 63 = n % 64 := by
  have h127 : (BitVec.ofInt 64 63).toNat = 2 ^ 6 - 1 := by decide
  have key : (BitVec.ofInt 64 n &&& BitVec.ofInt 64 63).toNat = (n % ((2 ^ 64 : Nat) : Int)).toNat % 2 ^ 6 := by
    rw [BitVec.toNat_and, BitVec.toNat_ofInt, h127, Nat.and_two_pow_sub_one_eq_mod]
  show IntKind.i64.wrap ((BitVec.ofInt 64 n &&& BitVec.ofInt 64 63).toNat : Nat) = n % 64
  rw [key, IntKind.wrap_i64]
  omega
theorem and_255_i (n : Int) : bits .and .i64 n 255 = n % 256 := by
  have h127 : (BitVec.ofInt 64 255).toNat = 2 ^ 8 - 1 := by decide
  have key : (BitVec.ofInt 64 n &&& BitVec.ofInt 64 255).toNat = (n % ((2 ^ 64 : Nat) : Int)).toNat % 2 ^ 8 := by
    rw [BitVec.toNat_and, BitVec.toNat_ofInt, h127, Nat.and_two_pow_sub_one_eq_mod]
  show IntKind.i64.wrap ((BitVec.ofInt 64 n &&& BitVec.ofInt 64 255).toNat : Nat) = n % 256
  rw [key, IntKind.wrap_i64]
  omega
theorem and_511_i (n : Int) : bits .and .i64 n 511 = n % 512 := by
  have h127 : (BitVec.ofInt 64 511).toNat = 2 ^ 9 - 1 := by decide
  have key : (BitVec.ofInt 64 n &&& BitVec.ofInt 64 511).toNat = (n % ((2 ^ 64 : Nat) : Int)).toNat % 2 ^ 9 := by
    rw [BitVec.toNat_and, BitVec.toNat_ofInt, h127, Nat.and_two_pow_sub_one_eq_mod]
  show IntKind.i64.wrap ((BitVec.ofInt 64 n &&& BitVec.ofInt 64 511).toNat : Nat) = n % 512
  rw [key, IntKind.wrap_i64]
  omega
theorem and_1023_i (n : Int) : bits .and .i64 n 1023 = n % 1024 := by
  have h127 : (BitVec.ofInt 64 1023).toNat = 2 ^ 10 - 1 := by decide
  have key : (BitVec.ofInt 64 n &&& BitVec.ofInt 64 1023).toNat = (n % ((2 ^ 64 : Nat) : Int)).toNat % 2 ^ 10 := by
    rw [BitVec.toNat_and, BitVec.toNat_ofInt, h127, Nat.and_two_pow_sub_one_eq_mod]
  show IntKind.i64.wrap ((BitVec.ofInt 64 n &&& BitVec.ofInt 64 1023).toNat : Nat) = n % 1024
  rw [key, IntKind.wrap_i64]
  omega
end Go.Proofs.Ytokgfeeaoioegaa
