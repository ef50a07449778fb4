/-
  The plain arithmetic of dividing two words by one, digit by digit of 32 bits (no program in sight): a guess that is too great by at most two, mended step by step.
-/
import Derived.Test.YtokgfeeaoioegaaShiftM
import Derived.Laws.MathBits
namespace Go.Proofs.Ytokgfeeaoioegaa
set_option linter.unusedVariables false

/-- One digit: T = U b + u, divided by Y = A b + B, where U < Y: the true digit Q = T / Y. What holds at the loop's head. -/
structure Digit (b A B U u q r : Nat) : Prop where
  sum : q * A + r = U
  ge : (U * b + u) / (A * b + B) ≤ q
  le : q ≤ b + 1
  lt : r < b
section
variable {b A B U u q r : Nat}
theorem digit_lt (hb : 0 < b) (hA : 0 < A) (hU : U < A * b + B) (hu : u < b) : (U * b + u) / (A * b + B) < b := by
  rw [Nat.div_lt_iff_lt_mul (by have := Nat.mul_pos hA hb; omega)]
  have : (U + 1) * b ≤ (A * b + B) * b := Nat.mul_le_mul_right _ hU
  rw [Nat.add_mul, Nat.one_mul] at this
  rw [Nat.mul_comm b]
  omega
theorem Digit.start (hA : 0 < A) (h2 : b ≤ 2 * A) (hAb : A < b) (hB : B < b) (hU : U < A * b + B) (hu : u < b) : Digit b A B U u (U / A) (U % A) := by
  have hb : 0 < b := by omega
  have hm := Nat.mod_lt U hA
  have hd := Nat.div_add_mod U A
  refine ⟨?_, ?_, ?_, by omega⟩
  · rw [Nat.mul_comm]; exact hd
  · have h1 : (U * b + u) / (A * b + B) ≤ (U * b + u) / (A * b) := Nat.div_le_div_left (by omega) (Nat.mul_pos hA hb)
    have h3 : (U * b + u) / (A * b) = U / A := by
      rw [Nat.mul_comm A b, ← Nat.div_div_eq_div_mul, Nat.add_comm, Nat.add_mul_div_right _ _ hb, Nat.div_eq_of_lt hu, Nat.zero_add]
    omega
  · have : U / A < b + 2 := by
      rw [Nat.div_lt_iff_lt_mul hA, Nat.add_mul, Nat.mul_comm b]
      omega
    omega
/-- The test says that the guess is too great. -/
theorem Digit.test (h : Digit b A B U u q r) : (A * b + B) * q > U * b + u ↔ b * r + u < q * B := by
  have e := h.sum
  have e2 : (A * b + B) * q = q * A * b + q * B := by rw [Nat.add_mul]; grind
  have e3 : U * b = q * A * b + b * r := by rw [← e]; grind
  rw [e2, e3]
  omega
theorem Digit.too_great (h : Digit b A B U u q r) (hA : 0 < A) (hb : 0 < b) : (U * b + u) / (A * b + B) < q ↔ b * r + u < q * B := by
  rw [Nat.div_lt_iff_lt_mul (by have := Nat.mul_pos hA hb; omega), Nat.mul_comm q, ← h.test]
theorem Digit.step (h : Digit b A B U u q r) (hq : (U * b + u) / (A * b + B) < q) (hr : r + A < b) : Digit b A B U u (q - 1) (r + A) := by
  have e := h.sum
  have l := h.le
  have hq0 : 0 < q := Nat.lt_of_le_of_lt (Nat.zero_le _) hq
  obtain ⟨k, rfl⟩ : ∃ k, q = k + 1 := ⟨q - 1, by omega⟩
  refine ⟨?_, by rw [Nat.add_sub_cancel]; omega, by omega, hr⟩
  rw [Nat.add_sub_cancel, ← e, Nat.add_mul]
  omega
/-- Where what is left has become too great, the guess is right. -/
theorem Digit.broke (h : Digit b A B U u q r) (hA : 0 < A) (hb : 0 < b) (hB : B < b) (hq : (U * b + u) / (A * b + B) < q) (hr : b ≤ r + A) : q - 1 = (U * b + u) / (A * b + B) := by
  have e := h.sum
  have l := h.le
  have hq0 : 0 < q := Nat.lt_of_le_of_lt (Nat.zero_le _) hq
  obtain ⟨k, rfl⟩ : ∃ k, q = k + 1 := ⟨q - 1, by omega⟩
  rw [Nat.add_sub_cancel]
  have hk : k ≤ (U * b + u) / (A * b + B) := by
    rw [Nat.le_div_iff_mul_le (by have := Nat.mul_pos hA hb; omega)]
    have e2 : k * (A * b + B) = k * A * b + k * B := by grind
    have e3 : U * b = k * A * b + (r + A) * b := by rw [← e]; grind
    have e4 : k * B ≤ b * b := Nat.mul_le_mul (by omega) (by omega)
    have e5 : b * b ≤ (r + A) * b := Nat.mul_le_mul_right _ hr
    rw [e2, e3]
    omega
  omega
end
/-- Both digits together. -/
theorem two_digits (b Y U u1 u0 : Nat) (hY : 0 < Y) (hb : 0 < b) : ((U * b + u1) / Y) * b + ((U * b + u1) % Y * b + u0) / Y = ((U * b + u1) * b + u0) / Y ∧ ((U * b + u1) % Y * b + u0) % Y = ((U * b + u1) * b + u0) % Y := by
  have e := Nat.div_add_mod (U * b + u1) Y
  have k : (U * b + u1) * b + u0 = ((U * b + u1) % Y * b + u0) + Y * ((U * b + u1) / Y * b) := by
    conv => lhs; rw [← e]
    grind
  rw [k, Nat.add_mul_div_left _ _ hY, Nat.add_mul_mod_self_left]
  refine ⟨by omega, rfl⟩
/-- What is left of a digit, reckoned with wraps. -/
theorem rest_wrap (U u q Y : Int) (R : Nat) (hR : (R : Int) = U * 4294967296 + u - q * Y) (hlt : R < 18446744073709551616) :
    IntKind.u64.wrap (IntKind.u64.wrap (IntKind.u64.wrap (U * 4294967296) + u) - IntKind.u64.wrap (q * Y)) = (R : Int) := by
  simp only [IntKind.wrap_u64]
  generalize q * Y = Z at *
  omega
/-- The divisor and both words shifted up, so that the divisor's highest bit is 1. -/
theorem div_norm (hi lo y : Int) (s : Nat) (h0 : 0 < hi) (h1 : hi < y) (l0 : 0 ≤ lo) (l1 : lo < 18446744073709551616) (y1 : y < 18446744073709551616) (hs : s + (bl y.toNat).length = 64) (hs1 : s ≤ 62) :
    ∃ Y U L : Int, IntKind.u64.wrap (y * 2 ^ s) = Y ∧ bits .or .u64 (IntKind.u64.wrap (hi * 2 ^ s)) (lo / 2 ^ (64 - s)) = U ∧ IntKind.u64.wrap (lo * 2 ^ s) = L ∧
      9223372036854775808 ≤ Y ∧ Y < 18446744073709551616 ∧ 0 ≤ U ∧ U < Y ∧ 0 ≤ L ∧ L < 18446744073709551616 ∧ Y.toNat = 2 ^ s * y.toNat ∧ U.toNat * 18446744073709551616 + L.toNat = 2 ^ s * wid hi lo := by
  obtain ⟨H, rfl⟩ := Int.eq_ofNat_of_zero_le (Int.le_of_lt h0)
  obtain ⟨l, rfl⟩ := Int.eq_ofNat_of_zero_le l0
  obtain ⟨v, rfl⟩ := Int.eq_ofNat_of_zero_le (show 0 ≤ y by omega)
  rw [Int.toNat_natCast] at hs
  have hv1 := (bl_length_le v (bl v).length).1 (Nat.le_refl _)
  have hv2 := (bl_length_lt v ((bl v).length - 1)).1 (by omega)
  have hp := Nat.two_pow_pos s
  have p1 : (2 : Nat) ^ s * 2 ^ (bl v).length = 18446744073709551616 := by rw [← Nat.pow_add, hs]
  have p2 : (2 : Nat) ^ s * 2 ^ ((bl v).length - 1) = 9223372036854775808 := by rw [← Nat.pow_add, show s + ((bl v).length - 1) = 63 by omega]
  have b1 : 2 ^ s * v < 18446744073709551616 := by rw [← p1]; exact Nat.mul_lt_mul_of_pos_left hv1 hp
  have b2 : 9223372036854775808 ≤ 2 ^ s * v := by rw [← p2]; exact Nat.mul_le_mul_left _ hv2
  have e1 : (v : Int) * 2 ^ s = ((2 ^ s * v : Nat) : Int) := by rw [Nat.mul_comm]; push_cast; rfl
  have e2 : (l : Int) * 2 ^ s = ((l * 2 ^ s : Nat) : Int) := by push_cast; rfl
  have e3 : (H : Int) * 2 ^ s = ((H * 2 ^ s : Nat) : Int) := by push_cast; rfl
  have e4 : (l : Int) / 2 ^ (64 - s) = ((l / 2 ^ (64 - s) : Nat) : Int) := by push_cast; rfl
  have hPQ := pow_split s (by omega)
  have hQ := Nat.two_pow_pos (64 - s)
  have hH : 2 ^ s * H + 2 ^ s ≤ 2 ^ s * v := by
    have : 2 ^ s * (H + 1) ≤ 2 ^ s * v := Nat.mul_le_mul_left _ (by omega)
    rw [Nat.mul_add, Nat.mul_one] at this
    exact this
  have q2 : l / 2 ^ (64 - s) < 2 ^ s := (Nat.div_lt_iff_lt_mul hQ).2 (by rw [hPQ]; omega)
  have m1 : H * 2 ^ s % 18446744073709551616 = 2 ^ s * H := by rw [Nat.mul_comm]; exact Nat.mod_eq_of_lt (by omega)
  have t2 : l / 2 ^ (64 - s) < 18446744073709551616 := Nat.lt_of_le_of_lt (Nat.div_le_self _ _) (by omega)
  have m2 : l * 2 ^ s % 18446744073709551616 = 2 ^ s * (l % 2 ^ (64 - s)) := by rw [← hPQ, Nat.mul_comm l, Nat.mul_mod_mul_left]
  have t3 : 2 ^ s * (l % 2 ^ (64 - s)) < 18446744073709551616 := by rw [← m2]; omega
  rw [e1, e2, e3, e4, wrap_nat, wrap_nat, wrap_nat, m1, m2, Nat.mod_eq_of_lt b1, or_nat _ _ s (by omega) t2 (Nat.mul_mod_right _ _) q2, wid_nat]
  refine ⟨_, _, _, rfl, rfl, rfl, ?_, ?_, Int.natCast_nonneg _, ?_, Int.natCast_nonneg _, cast_lt _ t3, by rw [Int.toNat_natCast, Int.toNat_natCast], ?_⟩
  · generalize 2 ^ s * v = X at *; omega
  · exact cast_lt _ b1
  · generalize 2 ^ s * v = X at *; generalize l / 2 ^ (64 - s) = Z at *; generalize 2 ^ s * H = W at *; omega
  · rw [Int.toNat_natCast, Int.toNat_natCast]
    have hl := Nat.div_add_mod l (2 ^ (64 - s))
    rw [← hPQ]
    conv => rhs; rw [← hl]
    grind
theorem join32 (U L : Nat) : (U * 4294967296 + L / 4294967296) * 4294967296 + L % 4294967296 = U * 18446744073709551616 + L := by omega
theorem div_fin (s y N U L Y A : Nat) (hp : 0 < y) (hY : Y = 2 ^ s * y) (hN : U * 18446744073709551616 + L = 2 ^ s * N) :
    ((U * 4294967296 + L / 4294967296) / Y) * 4294967296 + ((U * 4294967296 + L / 4294967296) % Y * 4294967296 + L % 4294967296) / Y = N / y ∧
    ((U * 4294967296 + L / 4294967296) % Y * 4294967296 + L % 4294967296) % Y / 2 ^ s = N % y := by
  have h2 := Nat.two_pow_pos s
  have hYp : 0 < Y := by rw [hY]; exact Nat.mul_pos h2 hp
  obtain ⟨a, b⟩ := two_digits 4294967296 Y U (L / 4294967296) (L % 4294967296) hYp (by omega)
  have e : (U * 4294967296 + L / 4294967296) * 4294967296 + L % 4294967296 = U * 18446744073709551616 + L := join32 U L
  rw [a, b, e, hN, hY, Nat.mul_div_mul_left _ _ h2, Nat.mul_mod_mul_left, Nat.mul_div_cancel_left _ h2]
  exact ⟨rfl, rfl⟩
/-- A digit's first guess. -/
theorem start_of (U A B u : Int) (hA0 : 2147483648 ≤ A) (hA1 : A < 4294967296) (hB0 : 0 ≤ B) (hB1 : B < 4294967296) (hU0 : 0 ≤ U) (hU : U < A * 4294967296 + B) (hu0 : 0 ≤ u) (hu1 : u < 4294967296) :
    ∃ q : Int, U / A = q ∧ 0 ≤ q ∧ 0 ≤ q * A ∧ q * A ≤ U ∧ Digit 4294967296 A.toNat B.toNat U.toNat u.toNat q.toNat (U - q * A).toNat := by
  have hst := Digit.start (b := 4294967296) (A := A.toNat) (B := B.toNat) (U := U.toNat) (u := u.toNat) (by omega) (by omega) (by omega) (by omega) (by omega) (by omega)
  obtain ⟨q, hq⟩ : ∃ q : Int, U / A = q := ⟨_, rfl⟩
  have hq1n : U.toNat / A.toNat = q.toNat := by
    rw [← hq]
    obtain ⟨a, rfl⟩ := Int.eq_ofNat_of_zero_le (show 0 ≤ A by omega)
    obtain ⟨v, rfl⟩ := Int.eq_ofNat_of_zero_le hU0
    rw [Int.toNat_natCast, Int.toNat_natCast, ← Int.natCast_ediv, Int.toNat_natCast]
  have hq10 : 0 ≤ q := by rw [← hq]; exact Int.ediv_nonneg hU0 (by omega)
  have hqA : q * A ≤ U := by rw [← hq]; exact Int.ediv_mul_le _ (by omega)
  have hqA0 : 0 ≤ q * A := Int.mul_nonneg hq10 (by omega)
  have hr1n : U.toNat % A.toNat = (U - q * A).toNat := by
    have h := Nat.div_add_mod U.toNat A.toNat
    rw [hq1n] at h
    have e : A.toNat * q.toNat = (q * A).toNat := by rw [Int.mul_comm, Int.toNat_mul (by omega) hq10]
    rw [e] at h
    generalize U.toNat % A.toNat = X at *
    omega
  rw [hq1n, hr1n] at hst
  exact ⟨q, hq, hq10, hqA0, hqA, hst⟩
/-- What is left behind a right digit. -/
theorem rest_of (U u q Y : Int) (hU : 0 ≤ U) (hu : 0 ≤ u) (hq0 : 0 ≤ q) (hY : 0 < Y) (hY1 : Y < 18446744073709551616) (hq : q.toNat = (U.toNat * 4294967296 + u.toNat) / Y.toNat) :
    ∃ R : Int, IntKind.u64.wrap (IntKind.u64.wrap (IntKind.u64.wrap (U * 4294967296) + u) - IntKind.u64.wrap (q * Y)) = R ∧ 0 ≤ R ∧ R < Y ∧ R.toNat = (U.toNat * 4294967296 + u.toNat) % Y.toNat := by
  have hm := Nat.mod_lt (U.toNat * 4294967296 + u.toNat) (show 0 < Y.toNat by omega)
  have hd := Nat.div_add_mod (U.toNat * 4294967296 + u.toNat) Y.toNat
  rw [← hq] at hd
  have e : Y.toNat * q.toNat = (q * Y).toNat := by rw [Int.mul_comm, Int.toNat_mul (by omega) hq0]
  rw [e] at hd
  have h0 : 0 ≤ q * Y := Int.mul_nonneg hq0 (by omega)
  generalize (U.toNat * 4294967296 + u.toNat) % Y.toNat = X at *
  refine ⟨(X : Int), rest_wrap U u q Y X ?_ (by omega), by omega, by omega, by omega⟩
  generalize q * Y = Z at *
  omega
/-- The test, as the program makes it. -/
theorem test_of (A B U u q r : Int) (hA : 0 < A) (hB0 : 0 ≤ B) (hu : 0 ≤ u) (hq : 0 ≤ q) (hr : 0 ≤ r) (h : Digit 4294967296 A.toNat B.toNat U.toNat u.toNat q.toNat r.toNat) :
    (U.toNat * 4294967296 + u.toNat) / (A.toNat * 4294967296 + B.toNat) < q.toNat ↔ 4294967296 * r + u < q * B := by
  rw [h.too_great (by omega) (by omega)]
  have e : q.toNat * B.toNat = (q * B).toNat := (Int.toNat_mul hq hB0).symm
  have h0 : 0 ≤ q * B := Int.mul_nonneg hq hB0
  rw [e]
  generalize q * B = Z at *
  omega
theorem prod_lt32 (q B : Int) (h0 : 0 ≤ q) (h1 : q < 4294967296) (g0 : 0 ≤ B) (g1 : B < 4294967296) : q * B < 18446744073709551616 := by
  have := prod_bound q B h0 (by omega) g0 (by omega)
  omega
/-- Both digits and what is left, back in whole numbers. -/
theorem div_close (s y N : Nat) (U L Y u1 u0 q R q' R' : Int) (hq : 0 ≤ q) (hR : 0 ≤ R) (hq' : 0 ≤ q') (hR' : 0 ≤ R')
    (hDF : (U.toNat * 4294967296 + L.toNat / 4294967296) / Y.toNat * 4294967296 + ((U.toNat * 4294967296 + L.toNat / 4294967296) % Y.toNat * 4294967296 + L.toNat % 4294967296) / Y.toNat = N / y ∧
      ((U.toNat * 4294967296 + L.toNat / 4294967296) % Y.toNat * 4294967296 + L.toNat % 4294967296) % Y.toNat / 2 ^ s = N % y)
    (hu : L.toNat / 4294967296 = u1.toNat ∧ L.toNat % 4294967296 = u0.toNat)
    (e1 : q.toNat = (U.toNat * 4294967296 + u1.toNat) / Y.toNat) (e2 : R.toNat = (U.toNat * 4294967296 + u1.toNat) % Y.toNat)
    (e3 : q'.toNat = (R.toNat * 4294967296 + u0.toNat) / Y.toNat) (e4 : R'.toNat = (R.toNat * 4294967296 + u0.toNat) % Y.toNat) :
    q * 4294967296 + q' = ((N / y : Nat) : Int) ∧ R' / 2 ^ s = ((N % y : Nat) : Int) := by
  obtain ⟨d1, d2⟩ := hDF
  rw [hu.1, hu.2, ← e1, ← e2, ← e3] at d1
  rw [hu.1, hu.2, ← e2, ← e4] at d2
  rw [← d1, ← d2]
  obtain ⟨a, rfl⟩ := Int.eq_ofNat_of_zero_le hq
  obtain ⟨b, rfl⟩ := Int.eq_ofNat_of_zero_le hq'
  obtain ⟨c, rfl⟩ := Int.eq_ofNat_of_zero_le hR'
  rw [Int.toNat_natCast, Int.toNat_natCast, Int.toNat_natCast]
  exact ⟨by omega, by rw [Int.natCast_ediv, Int.natCast_pow]; rfl⟩
end Go.Proofs.Ytokgfeeaoioegaa
