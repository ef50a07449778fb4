/-
  What small of the statements of layer 7 makes of a pattern, and what sums and products of numbers come to as bits times a power of two (no program in sight). No conditions.
-/
import Derived.Test.YtgpgmnmifhkmbaaBoxM
namespace Go.Proofs.Ytgpgmnmifhkmbaa
open Go.RowKit
set_option linter.unusedVariables false
set_option linter.unusedSimpArgs false

/-- A pattern with its exponent near that of 1. -/
def smB (b : Int) : Int := b / 9223372036854775808 * 9223372036854775808 + (1000 + b / 4503599627370496 % 32) * 4503599627370496 + b % 4503599627370496
theorem andNot_exp (b : Int) (h0 : 0 ≤ b) (h1 : b < 18446744073709551616) : bits .andNot .u64 b 9218868437227405312 = b / 9223372036854775808 * 9223372036854775808 + b % 4503599627370496 := by
  rw [u64_andNot b _ h0 h1 (by decide) (by decide)]
  have e1 := nat_bit 63 b.toNat
  have e2 := nat_mask52 b.toNat
  have e3 : 18446744073709551615 - (9218868437227405312 : Int).toNat = 2 ^ 63 ||| 4503599627370495 := by decide
  rw [e3, Nat.and_or_distrib_left, e1, e2, nat_join 63 _ _ (by omega) (by omega)]
  omega
theorem small_or (b t : Int) (h0 : 0 ≤ b) (h1 : b < 18446744073709551616) (t0 : 0 ≤ t) (t1 : t < 2048) : bits .or .u64 (b / 9223372036854775808 * 9223372036854775808 + b % 4503599627370496) (t * 4503599627370496) = b / 9223372036854775808 * 9223372036854775808 + t * 4503599627370496 + b % 4503599627370496 := by
  rw [u64_or _ _ (by omega) (by omega) (by omega) (by omega)]
  obtain ⟨s, hs⟩ : ∃ s : Nat, (s : Int) = b / 9223372036854775808 := ⟨(b / 9223372036854775808).toNat, by omega⟩
  obtain ⟨f, hf⟩ : ∃ f : Nat, (f : Int) = b % 4503599627370496 := ⟨(b % 4503599627370496).toNat, by omega⟩
  obtain ⟨T, rfl⟩ := Int.eq_ofNat_of_zero_le t0
  rw [← hs, ← hf]
  have hs1 : s < 2 := by omega
  have hf1 : f < 4503599627370496 := by omega
  have e1 : ((s : Int) * 9223372036854775808 + (f : Int)).toNat = s * 9223372036854775808 ||| f := by
    rw [nat_join 63 _ f (by omega) (by omega)]
    omega
  have e2 : ((T : Int) * 4503599627370496).toNat = T * 4503599627370496 := by omega
  rw [e1, e2, Nat.or_assoc, Nat.or_comm f, ← Nat.or_assoc, nat_join 63 _ (T * 4503599627370496) (by omega) (by omega), nat_join 52 _ f (by omega) (by omega)]
  omega
theorem and_31_u (n : Int) : bits .and .u64 n 31 = n % 32 := by
  have h127 : (BitVec.ofInt 64 31).toNat = 2 ^ 5 - 1 := by decide
  have key : (BitVec.ofInt 64 n &&& BitVec.ofInt 64 31).toNat = (n % ((2 ^ 64 : Nat) : Int)).toNat % 2 ^ 5 := by
    rw [BitVec.toNat_and, BitVec.toNat_ofInt, h127, Nat.and_two_pow_sub_one_eq_mod]
  show IntKind.u64.wrap ((BitVec.ofInt 64 n &&& BitVec.ofInt 64 31).toNat : Nat) = n % 32
  rw [key, IntKind.wrap_u64]
  omega
theorem smB_bd (b : Int) (h0 : 0 ≤ b) (h1 : b < 18446744073709551616) : 0 ≤ smB b ∧ smB b < 18446744073709551616 := by unfold smB; omega
theorem smB_exp (b : Int) (h0 : 0 ≤ b) (h1 : b < 18446744073709551616) : smB b / 4503599627370496 % 2048 = 1000 + b / 4503599627370496 % 32 := by unfold smB; omega
theorem smB_kind (b : Int) (h0 : 0 ≤ b) (h1 : b < 18446744073709551616) : wKind (smB b) = 3 := by
  unfold wKind
  rw [smB_exp b h0 h1, if_neg (by omega), if_pos (by omega)]
theorem smB_pow (b : Int) (h0 : 0 ≤ b) (h1 : b < 18446744073709551616) : -75 ≤ wPow (smB b) ∧ wPow (smB b) ≤ -44 := by
  unfold wPow
  rw [smB_kind b h0 h1, if_pos rfl, smB_exp b h0 h1]
  omega
theorem smB_mag (b : Int) (h0 : 0 ≤ b) (h1 : b < 18446744073709551616) : mag (smB b) < 9218868437227405312 := (fin_mag _).1 (by rw [smB_exp b h0 h1]; omega)
/-- What a number of sign, bits and a power stands for, times 2^64k. -/
def nv (n : Bool) (m : Nat) (e : Int) (k : Nat) : Int := sg n * ((m : Int) * ((2 ^ (e + 64 * (k : Int)).toNat : Nat) : Int))
theorem nv_xv (b : Int) (h0 : 0 ≤ b) (h1 : b < 18446744073709551616) : xv (smB b) = nv (sgn (smB b)) (wMant (smB b)).toNat (wPow (smB b)) 17 := by
  have hm := smB_mag b h0 h1
  obtain ⟨p1, p2, p3, p4⟩ := parts_bd (smB b)
  unfold xv nv
  rw [if_pos hm, ← of_math _ hm, show ((wMant (smB b)).toNat : Int) = wMant (smB b) by omega]
theorem nv_not (n : Bool) (m : Nat) (e : Int) (k : Nat) : nv (!n) m e k = - nv n m e k := by
  unfold nv
  rw [sg_not, Int.neg_mul]
theorem nv_mul (n n' : Bool) (m m' : Nat) (e e' : Int) (k k' : Nat) (h : 0 ≤ e + 64 * (k : Int)) (h' : 0 ≤ e' + 64 * (k' : Int)) : nv (n != n') (m * m') (e + e') (k + k') = nv n m e k * nv n' m' e' k' := by
  unfold nv
  rw [sg_mul, show (e + e' + 64 * ((k + k' : Nat) : Int)).toNat = (e + 64 * (k : Int)).toNat + (e' + 64 * (k' : Int)).toNat by omega, Nat.pow_add]
  generalize 2 ^ (e + 64 * (k : Int)).toNat = p
  generalize 2 ^ (e' + 64 * (k' : Int)).toNat = q
  push_cast
  grind
/-- The sum as the statements make it: its sign, and its bits at the lesser power. -/
def sumN (n n' : Bool) (x y : Nat) : Bool := if n = n' then n else if x < y then n' else n
def sumM (n n' : Bool) (x y : Nat) : Nat := if n = n' then x + y else if x < y then y - x else x - y
theorem nv_down (n : Bool) (m : Nat) (e f : Int) (k : Nat) (hf : f ≤ e) (h : 0 ≤ f + 64 * (k : Int)) : nv n m e k = nv n (2 ^ (e - f).toNat * m) f k := by
  unfold nv
  rw [show (e + 64 * (k : Int)).toNat = (e - f).toNat + (f + 64 * (k : Int)).toNat by omega, Nat.pow_add]
  generalize 2 ^ (e - f).toNat = p
  generalize 2 ^ (f + 64 * (k : Int)).toNat = q
  push_cast
  grind
theorem nv_add (n n' : Bool) (x y : Nat) (f : Int) (k : Nat) : nv (sumN n n' x y) (sumM n n' x y) f k = nv n x f k + nv n' y f k := by
  unfold nv sumN sumM
  generalize 2 ^ (f + 64 * (k : Int)).toNat = q
  cases n <;> cases n' <;> simp only [if_true, if_false, reduceIte, Bool.false_eq_true, Bool.true_eq_false, sg]
  · rw [Int.natCast_add]; grind
  · split
    · simp only [if_true]
      rw [Int.natCast_sub (by omega)]; grind
    · simp only [Bool.false_eq_true, if_false]
      rw [Int.natCast_sub (by omega)]; grind
  · split
    · simp only [Bool.false_eq_true, if_false]
      rw [Int.natCast_sub (by omega)]; grind
    · simp only [if_true]
      rw [Int.natCast_sub (by omega)]; grind
  · rw [Int.natCast_add]; grind
theorem nv_sum (n n' : Bool) (m m' : Nat) (e e' f : Int) (k : Nat) (h1 : f ≤ e) (h2 : f ≤ e') (h : 0 ≤ f + 64 * (k : Int)) :
    nv (sumN n n' (2 ^ (e - f).toNat * m) (2 ^ (e' - f).toNat * m')) (sumM n n' (2 ^ (e - f).toNat * m) (2 ^ (e' - f).toNat * m')) f k = nv n m e k + nv n' m' e' k := by
  rw [nv_add, ← nv_down n m e f k h1 h, ← nv_down n' m' e' f k h2 h]
/-- One bit more. -/
theorem val_bit (xs : List Int) (i : Nat) (h : i < xs.length) (e : Int) (k : Nat) (he : 0 ≤ e + 64 * (k : Int)) (hb : xs[i]?.getD 0 = 1) :
    (val (xs.take i) : Int) * ((2 ^ (e + 64 * (k : Int)).toNat : Nat) : Int) + ((2 ^ (e + i + 64 * (k : Int)).toNat : Nat) : Int) = (val (xs.take (i + 1)) : Int) * ((2 ^ (e + 64 * (k : Int)).toNat : Nat) : Int) := by
  have hb' : xs[i] = 1 := by rw [List.getElem?_eq_getElem h] at hb; exact hb
  rw [val_take_succ xs i h, hb', show (e + (i : Int) + 64 * (k : Int)).toNat = i + (e + 64 * (k : Int)).toNat by omega, Nat.pow_add]
  generalize 2 ^ i = p
  generalize 2 ^ (e + 64 * (k : Int)).toNat = q
  simp only [show (1 : Int).toNat = 1 from rfl, Nat.mul_one]
  push_cast
  grind
theorem val_bit0 (xs : List Int) (i : Nat) (h : i < xs.length) (hb : xs[i]?.getD 0 = 0) : val (xs.take (i + 1)) = val (xs.take i) := by
  have hb' : xs[i] = 0 := by rw [List.getElem?_eq_getElem h] at hb; exact hb
  rw [val_take_succ xs i h, hb']
  simp
end Go.Proofs.Ytgpgmnmifhkmbaa
