/-
  How far a root of a sum of squares, reckoned as layer 10 says, lies from the exact one: the pieces. Conditions: finite numbers; the greatest is 1 to 2 when divided.
-/
import Derived.Test.YtokgfeeaoioegaaDotM
namespace Go.Proofs.Ytokgfeeaoioegaa
set_option linter.unusedVariables false
set_option linter.unusedSimpArgs false

def nj : Nat := 1100
theorem nj_is : (nj : Int) = 1100 := rfl
/-- The pattern of a power of two. -/
theorem pat_pow (m : Int) (h : -1022 ≤ m) : patP 1 m = (m + 1023).toNat * 4503599627370496 := by
  have h1 := patP_scale 1 (m - (52 : Nat)) 52
  rw [show m - (52 : Nat) + (52 : Nat) = m by omega] at h1
  rw [← h1, show 1 * 2 ^ 52 = 4503599627370496 by decide, patP_exact 4503599627370496 _ (by decide) (by decide) (by omega) (.inl (by decide))]
  omega
/-- What lies beneath 2^1000 is not too great. -/
theorem flag_pow (x : Nat) (e : Int) (k : Nat) (hx : x ≤ 2 ^ k) (hk : e + k ≤ 1000) : flagP x e < 4 := by
  have h1 : x ≤ 2 ^ (1000 - e).toNat := Nat.le_trans hx (Nat.pow_le_pow_right (by decide) (by omega))
  have h2 := patP_mono x _ e h1
  have h3 := patP_scale 1 e (1000 - e).toNat
  rw [Nat.one_mul, show e + ((1000 - e).toNat : Int) = 1000 by omega, pat_pow 1000 (by decide)] at h3
  rw [h3] at h2
  have h4 : (1000 + 1023 : Int).toNat * 4503599627370496 = 9110782046170513408 := by decide
  rw [h4] at h2
  unfold flagP
  rw [if_neg (by omega)]
  split
  · split <;> omega
  · omega
/-- What lies beneath a power of two lies beneath it when it is rounded. -/
theorem V_le_pow (x j k : Nat) (e : Int) (he : e = -1074 - (j : Int)) (hjk : j ≤ k) (hx : x ≤ 2 ^ k) : V (patP x e) ≤ 2 ^ (k - j) := by
  have h2 := V_mono _ _ (patP_mono x _ e hx)
  have h3 := patP_scale (2 ^ (k - j)) e j
  rw [← Nat.pow_add, show k - j + j = k by omega, show e + (j : Int) = -1074 by omega] at h3
  rw [h3] at h2
  have h4 := told 1 (k - j) (by decide)
  rw [Nat.one_mul] at h4
  rw [V_exact _ h4] at h2
  exact h2
/-- A number divided by a power of two: near, with half a last place besides. -/
theorem scale_low (a e : Int) (ha : mag a < 9218868437227405312) (e0 : -1074 ≤ e) (e1 : e ≤ 1023) (hV : V (mag a) ≤ 2 ^ (e + 1075).toNat) :
    mag (scaleS a (-e)).1 < 9218868437227405312 ∧ V (mag (scaleS a (-e)).1) ≤ 2 ^ (uu + 1) ∧
    V (mag (scaleS a (-e)).1) * 2 ^ nj * 9007199254740992 ≤ V (mag a) * 2 ^ (nj - e).toNat * 9007199254740992 + (V (mag a) * 2 ^ (nj - e).toNat + 2 ^ nj * 4503599627370496) ∧
    V (mag a) * 2 ^ (nj - e).toNat * 9007199254740992 ≤ V (mag (scaleS a (-e)).1) * 2 ^ nj * 9007199254740992 + (V (mag a) * 2 ^ (nj - e).toNat + 2 ^ nj * 4503599627370496) := by
  have hu := uu_is
  have hj := nj_is
  obtain ⟨f1, f2⟩ := fin_facts a ha
  by_cases hz : mag a = 0
  · have e1 : scaleS a (-e) = (a, 0) := by
      unfold scaleS
      rw [f1, f2, if_neg (by decide), if_pos (by rw [Bool.or_eq_true]; exact .inr ((z_iff a).2 hz))]
    rw [e1]
    show mag a < _ ∧ V (mag a) ≤ _ ∧ V (mag a) * _ * _ ≤ _ ∧ _ ≤ V (mag a) * _ * _ + _
    rw [hz, V_zero, Nat.zero_mul, Nat.zero_mul, Nat.zero_mul, Nat.zero_mul]
    exact ⟨by decide, Nat.zero_le _, Nat.zero_le _, Nat.zero_le _⟩
  · have e1 : scaleS a (-e) = (sgnB (sgn a) + ((numP (V (mag a)) (-e - 1074) : Nat) : Int), ((flagP (V (mag a)) (-e - 1074) : Nat) : Int)) := by
      unfold scaleS
      rw [f1, f2, if_neg (by decide), if_neg (by rw [Bool.or_eq_true, z_iff]; rintro (h | h); exact absurd h (by decide); exact hz h)]
    rw [e1]
    have n1 := numP_scale (V (mag a)) (-1074 - (nj : Int)) (nj - e).toNat
    have n2 := flagP_scale (V (mag a)) (-1074 - (nj : Int)) (nj - e).toNat
    rw [show -1074 - (nj : Int) + ((nj - e).toNat : Int) = -e - 1074 by omega] at n1 n2
    have hB : V (mag a) * 2 ^ (nj - e).toNat ≤ 2 ^ (uu + 1 + nj) := by
      refine Nat.le_trans (Nat.mul_le_mul_right _ hV) ?_
      rw [← Nat.pow_add]
      exact Nat.pow_le_pow_right (by decide) (by omega)
    have hfl := flag_pow _ (-1074 - (nj : Int)) _ hB (by omega)
    obtain ⟨g1, g2, g3⟩ := err_low _ nj (-1074 - (nj : Int)) rfl hfl
    obtain ⟨p1, p2⟩ := num_pat _ _ hfl
    have hVb := V_le_pow _ nj (uu + 1 + nj) (-1074 - (nj : Int)) rfl (by omega) hB
    rw [← p1, n1, show uu + 1 + nj - nj = uu + 1 by omega] at hVb
    rw [n1] at g1 g2 g3
    have hm : mag (sgnB (sgn a) + ((numP (V (mag a)) (-e - 1074) : Nat) : Int)) = numP (V (mag a)) (-e - 1074) := (sgn_mag _ _ (by omega)).1
    show mag (sgnB (sgn a) + ((numP (V (mag a)) (-e - 1074) : Nat) : Int)) < _ ∧ V (mag (sgnB (sgn a) + ((numP (V (mag a)) (-e - 1074) : Nat) : Int))) ≤ _ ∧ V (mag (sgnB (sgn a) + ((numP (V (mag a)) (-e - 1074) : Nat) : Int))) * _ * _ ≤ _ ∧ _ ≤ V (mag (sgnB (sgn a) + ((numP (V (mag a)) (-e - 1074) : Nat) : Int))) * _ * _ + _
    rw [hm, ← Nat.add_assoc, ← Nat.add_assoc]
    exact ⟨g1, hVb, g2, g3⟩
/-- Squares of near numbers. -/
theorem sq_err (U B y h : Nat) (hU : 1 ≤ U) (h1 : y * U ≤ B * U + (B + h)) (h2 : B * U ≤ y * U + (B + h)) : y * y * U ≤ B * B * U + (B + h) * (3 * B + h) ∧ B * B * U ≤ y * y * U + (B + h) * (3 * B + h) := by
  have hy : y ≤ 2 * B + h := by
    refine Nat.le_of_mul_le_mul_right (Nat.le_trans h1 ?_) hU
    rw [show 2 * B + h = B + (B + h) by omega, Nat.add_mul B (B + h) U]
    exact Nat.add_le_add_left (Nat.le_mul_of_pos_right _ hU) _
  rcases Nat.le_total B y with g | g
  · obtain ⟨d, rfl⟩ : ∃ d, y = B + d := ⟨y - B, by omega⟩
    have hd : d * U ≤ B + h := by rw [Nat.add_mul] at h1; omega
    have e : (B + d) * (B + d) * U = B * B * U + d * U * (2 * B + d) := by
      rw [Nat.add_mul B d, Nat.mul_add, Nat.mul_add, show d * U * (2 * B + d) = (B * d + (d * B + d * d)) * U by
        rw [Nat.mul_comm d U, Nat.mul_assoc, Nat.mul_comm _ U, Nat.mul_add, Nat.mul_comm B d, ← Nat.add_assoc (d * B), show d * (2 * B) = d * B + d * B by rw [← Nat.mul_assoc, Nat.mul_comm d 2, Nat.mul_assoc]; omega], ← Nat.add_mul, Nat.add_assoc]
    have k : d * U * (2 * B + d) ≤ (B + h) * (3 * B + h) := Nat.mul_le_mul hd (by omega)
    rw [e]
    constructor
    · omega
    · omega
  · obtain ⟨d, rfl⟩ : ∃ d, B = y + d := ⟨B - y, by omega⟩
    have hd : d * U ≤ y + d + h := by rw [Nat.add_mul] at h2; omega
    have e : (y + d) * (y + d) * U = y * y * U + d * U * (2 * y + d) := by
      rw [Nat.add_mul y d, Nat.mul_add, Nat.mul_add, show d * U * (2 * y + d) = (y * d + (d * y + d * d)) * U by
        rw [Nat.mul_comm d U, Nat.mul_assoc, Nat.mul_comm _ U, Nat.mul_add, Nat.mul_comm y d, ← Nat.add_assoc (d * y), show d * (2 * y) = d * y + d * y by rw [← Nat.mul_assoc, Nat.mul_comm d 2, Nat.mul_assoc]; omega], ← Nat.add_mul, Nat.add_assoc]
    have k : d * U * (2 * y + d) ≤ (y + d + h) * (3 * (y + d) + h) := Nat.mul_le_mul hd (by omega)
    rw [e]
    constructor
    · omega
    · omega
end Go.Proofs.Ytokgfeeaoioegaa
