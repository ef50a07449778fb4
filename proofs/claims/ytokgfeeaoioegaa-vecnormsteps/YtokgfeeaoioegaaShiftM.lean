/-
  Plain arithmetic of shifts of two words (no program in sight): up by n and down by n bits. Words below 2^64.
-/
import Derived.Test.YtokgfeeaoioegaaWideM
namespace Go.Proofs.Ytokgfeeaoioegaa
set_option linter.unusedVariables false

theorem cast_lt (a : Nat) (h : a < 18446744073709551616) : (a : Int) < 18446744073709551616 := by omega
theorem shl_core (P Q H L : Nat) (hP : 0 < P) (hQ : 0 < Q) (hL : L < P * Q) :
    (P * (H % Q) + L / Q) * (P * Q) + P * (L % Q) = P * (H * (P * Q) + L) % (P * Q * (P * Q)) := by
  have hH := Nat.div_add_mod H Q
  have hLd := Nat.div_add_mod L Q
  have hq : L / Q < P := (Nat.div_lt_iff_lt_mul hQ).2 hL
  have hr : L % Q < Q := Nat.mod_lt _ hQ
  have hr2 : H % Q < Q := Nat.mod_lt _ hQ
  have e : P * (H * (P * Q) + L) = ((P * (H % Q) + L / Q) * (P * Q) + P * (L % Q)) + (P * Q * (P * Q)) * (H / Q) := by
    conv => lhs; rw [← hH, ← hLd]
    grind
  have b1 : P * (H % Q) + L / Q + 1 ≤ P * Q := by
    have : P * (H % Q + 1) ≤ P * Q := Nat.mul_le_mul_left P hr2
    rw [Nat.mul_add, Nat.mul_one] at this
    omega
  have b2 : P * (L % Q) < P * Q := Nat.mul_lt_mul_of_pos_left hr hP
  have b3 : (P * (H % Q) + L / Q + 1) * (P * Q) ≤ P * Q * (P * Q) := Nat.mul_le_mul_right _ b1
  rw [Nat.add_mul _ 1, Nat.one_mul] at b3
  rw [e, Nat.add_mul_mod_self_left]
  exact (Nat.mod_eq_of_lt (by omega)).symm
theorem shr_core (P Q H L : Nat) (hP : 0 < P) : (H / P) * (P * Q) + (Q * (H % P) + L / P) = (H * (P * Q) + L) / P := by
  have hH := Nat.div_add_mod H P
  rw [show H * (P * Q) + L = L + P * (H * Q) by grind, Nat.add_mul_div_left _ _ hP]
  conv => rhs; rw [← hH]
  grind
theorem pow_split (k : Nat) (h : k ≤ 64) : (2 : Nat) ^ k * 2 ^ (64 - k) = 18446744073709551616 := by
  rw [← Nat.pow_add, show k + (64 - k) = 64 by omega]
theorem or_nat (a b k : Nat) (ha : a < 18446744073709551616) (hb : b < 18446744073709551616) (h : a % 2 ^ k = 0) (g : b < 2 ^ k) : bits .or .u64 (a : Int) (b : Int) = ((a + b : Nat) : Int) := by
  rw [bits_or_u64_nat a b ha hb, nat_join k a b h g]
theorem or_nat' (a b k : Nat) (ha : a < 18446744073709551616) (hb : b < 18446744073709551616) (h : a % 2 ^ k = 0) (g : b < 2 ^ k) : bits .or .u64 (b : Int) (a : Int) = ((a + b : Nat) : Int) := by
  rw [bits_or_u64_nat b a hb ha, Nat.or_comm, nat_join k a b h g]
theorem wrap_nat (a : Nat) : IntKind.u64.wrap (a : Int) = ((a % 18446744073709551616 : Nat) : Int) := by
  rw [IntKind.wrap_u64]; omega
theorem wid_nat (h l : Nat) : wid (h : Int) (l : Int) = h * 18446744073709551616 + l := by unfold wid; omega
theorem wid_lt (h l : Int) (a0 : 0 ≤ h) (a1 : h < 18446744073709551616) (a2 : 0 ≤ l) (a3 : l < 18446744073709551616) : wid h l < 2 ^ 128 := by unfold wid; omega

theorem shl_mid (ah al n : Int) (a0 : 0 ≤ ah) (a1 : ah < 18446744073709551616) (a2 : 0 ≤ al) (a3 : al < 18446744073709551616) (n0 : 0 < n) (n1 : n < 64) :
    ∃ h l : Int, bits .or .u64 (IntKind.u64.wrap (ah * 2 ^ n.toNat)) (al / 2 ^ (64 - n).toNat) = h ∧ IntKind.u64.wrap (al * 2 ^ n.toNat) = l ∧ 0 ≤ h ∧ h < 18446744073709551616 ∧ 0 ≤ l ∧ l < 18446744073709551616 ∧ wid h l = 2 ^ n.toNat * wid ah al % 2 ^ 128 := by
  obtain ⟨H, rfl⟩ := Int.eq_ofNat_of_zero_le a0
  obtain ⟨L, rfl⟩ := Int.eq_ofNat_of_zero_le a2
  obtain ⟨k, rfl⟩ := Int.eq_ofNat_of_zero_le (Int.le_of_lt n0)
  rw [Int.toNat_natCast, show ((64 : Int) - (k : Int)).toNat = 64 - k by omega]
  have hPQ := pow_split k (by omega)
  have hP := Nat.two_pow_pos k
  have hQ := Nat.two_pow_pos (64 - k)
  have e1 : (H : Int) * 2 ^ k = ((H * 2 ^ k : Nat) : Int) := by push_cast; rfl
  have e2 : (L : Int) * 2 ^ k = ((L * 2 ^ k : Nat) : Int) := by push_cast; rfl
  have e3 : (L : Int) / 2 ^ (64 - k) = ((L / 2 ^ (64 - k) : Nat) : Int) := by push_cast; rfl
  rw [e1, e2, e3, wrap_nat, wrap_nat, wid_nat, ← hPQ]
  have m1 : H * 2 ^ k % (2 ^ k * 2 ^ (64 - k)) = 2 ^ k * (H % 2 ^ (64 - k)) := by rw [Nat.mul_comm H, Nat.mul_mod_mul_left]
  have m2 : L * 2 ^ k % (2 ^ k * 2 ^ (64 - k)) = 2 ^ k * (L % 2 ^ (64 - k)) := by rw [Nat.mul_comm L, Nat.mul_mod_mul_left]
  have hLlt : L < 2 ^ k * 2 ^ (64 - k) := by rw [hPQ]; omega
  have q2 : L / 2 ^ (64 - k) < 2 ^ k := (Nat.div_lt_iff_lt_mul hQ).2 hLlt
  have t1 : 2 ^ k * (H % 2 ^ (64 - k)) < 18446744073709551616 := by rw [← m1, hPQ]; omega
  have t2 : L / 2 ^ (64 - k) < 18446744073709551616 := Nat.lt_of_le_of_lt (Nat.div_le_self _ _) (by omega)
  have t3 : 2 ^ k * (L % 2 ^ (64 - k)) < 18446744073709551616 := by rw [← m2, hPQ]; omega
  have core := shl_core (2 ^ k) (2 ^ (64 - k)) H L hP hQ hLlt
  have b1 : 2 ^ k * (H % 2 ^ (64 - k)) + L / 2 ^ (64 - k) < 18446744073709551616 := by
    have : 2 ^ k * (H % 2 ^ (64 - k) + 1) ≤ 2 ^ k * 2 ^ (64 - k) := Nat.mul_le_mul_left _ (Nat.mod_lt _ hQ)
    rw [Nat.mul_add, Nat.mul_one, hPQ] at this
    omega
  rw [m1, m2]
  refine ⟨_, _, or_nat _ _ k t1 t2 (Nat.mul_mod_right _ _) q2, rfl, Int.natCast_nonneg _, cast_lt _ b1, Int.natCast_nonneg _, cast_lt _ t3, ?_⟩
  rw [wid_nat]
  rw [hPQ] at core ⊢
  rw [core]
theorem shr_mid (ah al n : Int) (a0 : 0 ≤ ah) (a1 : ah < 18446744073709551616) (a2 : 0 ≤ al) (a3 : al < 18446744073709551616) (n0 : 0 < n) (n1 : n < 64) :
    ∃ h l : Int, ah / 2 ^ n.toNat = h ∧ bits .or .u64 (al / 2 ^ n.toNat) (IntKind.u64.wrap (ah * 2 ^ (64 - n).toNat)) = l ∧ 0 ≤ h ∧ h < 18446744073709551616 ∧ 0 ≤ l ∧ l < 18446744073709551616 ∧ wid h l = wid ah al / 2 ^ n.toNat := by
  obtain ⟨H, rfl⟩ := Int.eq_ofNat_of_zero_le a0
  obtain ⟨L, rfl⟩ := Int.eq_ofNat_of_zero_le a2
  obtain ⟨k, rfl⟩ := Int.eq_ofNat_of_zero_le (Int.le_of_lt n0)
  rw [Int.toNat_natCast, show ((64 : Int) - (k : Int)).toNat = 64 - k by omega]
  have hPQ := pow_split k (by omega)
  have hP := Nat.two_pow_pos k
  have hQ := Nat.two_pow_pos (64 - k)
  have e1 : (H : Int) * 2 ^ (64 - k) = ((H * 2 ^ (64 - k) : Nat) : Int) := by push_cast; rfl
  have e2 : (H : Int) / 2 ^ k = ((H / 2 ^ k : Nat) : Int) := by push_cast; rfl
  have e3 : (L : Int) / 2 ^ k = ((L / 2 ^ k : Nat) : Int) := by push_cast; rfl
  rw [e1, e2, e3, wrap_nat, wid_nat]
  have m1 : H * 2 ^ (64 - k) % 18446744073709551616 = 2 ^ (64 - k) * (H % 2 ^ k) := by rw [← hPQ, Nat.mul_comm (2 ^ k), Nat.mul_comm H, Nat.mul_mod_mul_left]
  have q2 : L / 2 ^ k < 2 ^ (64 - k) := (Nat.div_lt_iff_lt_mul hP).2 (by rw [Nat.mul_comm, hPQ]; omega)
  have t1 : 2 ^ (64 - k) * (H % 2 ^ k) < 18446744073709551616 := by rw [← m1]; omega
  have t2 : L / 2 ^ k < 18446744073709551616 := Nat.lt_of_le_of_lt (Nat.div_le_self _ _) (by omega)
  have t3 : H / 2 ^ k < 18446744073709551616 := Nat.lt_of_le_of_lt (Nat.div_le_self _ _) (by omega)
  have core := shr_core (2 ^ k) (2 ^ (64 - k)) H L hP
  have b1 : 2 ^ (64 - k) * (H % 2 ^ k) + L / 2 ^ k < 18446744073709551616 := by
    have : 2 ^ (64 - k) * (H % 2 ^ k + 1) ≤ 2 ^ (64 - k) * 2 ^ k := Nat.mul_le_mul_left _ (Nat.mod_lt _ hP)
    rw [Nat.mul_add, Nat.mul_one, Nat.mul_comm (2 ^ (64 - k)) (2 ^ k), hPQ] at this
    omega
  rw [m1]
  refine ⟨_, _, rfl, or_nat' _ _ (64 - k) t1 t2 (Nat.mul_mod_right _ _) q2, Int.natCast_nonneg _, cast_lt _ t3, Int.natCast_nonneg _, cast_lt _ b1, ?_⟩
  rw [wid_nat]
  rw [hPQ] at core
  rw [← core]
theorem shl_big (ah al n : Int) (a0 : 0 ≤ ah) (a2 : 0 ≤ al) (n0 : 64 ≤ n) :
    ∃ h : Int, IntKind.u64.wrap (al * 2 ^ min (n - 64).toNat 64) = h ∧ 0 ≤ h ∧ h < 18446744073709551616 ∧ wid h 0 = 2 ^ n.toNat * wid ah al % 2 ^ 128 := by
  obtain ⟨H, rfl⟩ := Int.eq_ofNat_of_zero_le a0
  obtain ⟨L, rfl⟩ := Int.eq_ofNat_of_zero_le a2
  obtain ⟨m, hm⟩ : ∃ m : Nat, n = 64 + m := ⟨(n - 64).toNat, by omega⟩
  subst hm
  rw [show ((64 : Int) + (m : Int) - 64).toNat = m by omega, show ((64 : Int) + (m : Int)).toNat = 64 + m by omega]
  have e1 : (L : Int) * 2 ^ min m 64 = ((L * 2 ^ min m 64 : Nat) : Int) := by push_cast; rfl
  rw [e1, wrap_nat, wid_nat]
  refine ⟨_, rfl, by omega, by omega, ?_⟩
  have e2 : L * 2 ^ min m 64 % 18446744073709551616 = L * 2 ^ m % 18446744073709551616 := by
    by_cases h : m ≤ 64
    · rw [show min m 64 = m by omega]
    · rw [show min m 64 = 64 by omega, show m = 64 + (m - 64) by omega, Nat.pow_add, show (2 : Nat) ^ 64 = 18446744073709551616 by decide, Nat.mul_mod_left, ← Nat.mul_assoc, Nat.mul_right_comm, Nat.mul_mod_left]
  rw [e2, show ((0 : Int)) = ((0 : Nat) : Int) by rfl, wid_nat, Nat.add_zero]
  have e3 : 2 ^ (64 + m) * (H * 18446744073709551616 + L) = (L * 2 ^ m) * 18446744073709551616 + 2 ^ 128 * (H * 2 ^ m) := by
    rw [Nat.pow_add, show (2 : Nat) ^ 64 = 18446744073709551616 by decide, show (2 : Nat) ^ 128 = 18446744073709551616 * 18446744073709551616 by decide]
    grind
  rw [e3, Nat.add_mul_mod_self_left, show (2 : Nat) ^ 128 = 18446744073709551616 * 18446744073709551616 by decide, Nat.mul_mod_mul_right]
theorem shr_big (ah al n : Int) (a0 : 0 ≤ ah) (a1 : ah < 18446744073709551616) (a2 : 0 ≤ al) (a3 : al < 18446744073709551616) (n0 : 64 ≤ n) :
    ∃ l : Int, ah / 2 ^ min (n - 64).toNat 64 = l ∧ 0 ≤ l ∧ l < 18446744073709551616 ∧ wid 0 l = wid ah al / 2 ^ n.toNat := by
  obtain ⟨H, rfl⟩ := Int.eq_ofNat_of_zero_le a0
  obtain ⟨L, rfl⟩ := Int.eq_ofNat_of_zero_le a2
  obtain ⟨m, hm⟩ : ∃ m : Nat, n = 64 + m := ⟨(n - 64).toNat, by omega⟩
  subst hm
  rw [show ((64 : Int) + (m : Int) - 64).toNat = m by omega, show ((64 : Int) + (m : Int)).toNat = 64 + m by omega]
  have e1 : (H : Int) / 2 ^ min m 64 = ((H / 2 ^ min m 64 : Nat) : Int) := by push_cast; rfl
  rw [e1, wid_nat]
  have t : H / 2 ^ min m 64 < 18446744073709551616 := Nat.lt_of_le_of_lt (Nat.div_le_self _ _) (by omega)
  refine ⟨_, rfl, Int.natCast_nonneg _, cast_lt _ t, ?_⟩
  have e2 : H / 2 ^ min m 64 = H / 2 ^ m := by
    by_cases h : m ≤ 64
    · rw [show min m 64 = m by omega]
    · have h1 : H < 2 ^ 64 := by omega
      have h2 : (2 : Nat) ^ 64 ≤ 2 ^ m := Nat.pow_le_pow_right (by decide) (by omega)
      rw [show min m 64 = 64 by omega, Nat.div_eq_of_lt h1, Nat.div_eq_of_lt (by omega)]
  rw [e2, show ((0 : Int)) = ((0 : Nat) : Int) by rfl, wid_nat, Nat.zero_mul, Nat.zero_add, Nat.pow_add, ← Nat.div_div_eq_div_mul]
  rw [show (2 : Nat) ^ 64 = 18446744073709551616 by decide]
  congr 1
  omega
theorem lost_wid (A n : Nat) (h : A < 2 ^ 128) : (2 ^ n * (A / 2 ^ n) % 2 ^ 128 ≠ A) ↔ A % 2 ^ n ≠ 0 := by
  have e := Nat.div_add_mod A (2 ^ n)
  have : 2 ^ n * (A / 2 ^ n) ≤ A := Nat.mul_div_le _ _
  rw [Nat.mod_eq_of_lt (by omega)]
  omega
theorem wid_inj (h l h' l' : Int) (a0 : 0 ≤ h) (a1 : h < 18446744073709551616) (a2 : 0 ≤ l) (a3 : l < 18446744073709551616) (b0 : 0 ≤ h') (b1 : h' < 18446744073709551616) (b2 : 0 ≤ l') (b3 : l' < 18446744073709551616) (e : wid h l = wid h' l') : h = h' ∧ l = l' := by
  unfold wid at e; omega
theorem wid_ex (X : Nat) (h : X < 2 ^ 128) : ∃ H L : Int, 0 ≤ H ∧ H < 18446744073709551616 ∧ 0 ≤ L ∧ L < 18446744073709551616 ∧ wid H L = X := by
  refine ⟨((X / 18446744073709551616 : Nat) : Int), ((X % 18446744073709551616 : Nat) : Int), ?_⟩
  unfold wid
  refine ⟨by omega, by omega, by omega, by omega, by omega⟩
theorem mod128_lt (X : Nat) : X % 2 ^ 128 < 2 ^ 128 := Nat.mod_lt _ (Nat.two_pow_pos _)
end Go.Proofs.Ytokgfeeaoioegaa
