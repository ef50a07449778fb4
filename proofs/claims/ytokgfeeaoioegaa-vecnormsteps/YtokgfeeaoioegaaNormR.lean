/-
  How far a root of a sum of squares, reckoned as layer 10 says, lies from the exact one: within (n + 4) 2^-53 (P10.3). Conditions: at most 1000 finite numbers, not all nought; what is scaled back is neither too great nor too small.
-/
import Derived.Test.YtokgfeeaoioegaaNormT
namespace Go.Proofs.Ytokgfeeaoioegaa
set_option linter.unusedVariables false
set_option linter.unusedSimpArgs false

def hh : Nat := 435
theorem hh_is : (hh : Int) = 435 := rfl
theorem root_num (v : Nat) : rootN v = numP ((isq (v * 2 ^ ww) * 2 ^ 2 + (decide (isq (v * 2 ^ ww) * isq (v * 2 ^ ww) ≠ v * 2 ^ ww)).toNat) * 2 ^ hh) (-1074) := by
  have hh' := hh_is
  rw [numP_scale, show -1074 + (hh : Int) = -637 - (2 : Nat) by omega]
  rfl
/-- The whole root with its bit more, squared, against the number: within 1 in K. -/
theorem root_sq (w z c K : Nat) (b : Bool) (hb : b = decide (z * z ≠ w)) (h1 : z * z ≤ w) (h2 : w < (z + 1) * (z + 1)) (hK : 2 * K ≤ z) (hK1 : 1 ≤ K) :
    (z * 2 ^ 2 + b.toNat) * c * ((z * 2 ^ 2 + b.toNat) * c) * K ≤ w * 16 * (c * c) * (K + 1) ∧ w * 16 * (c * c) * K ≤ (z * 2 ^ 2 + b.toNat) * c * ((z * 2 ^ 2 + b.toNat) * c) * K + w * 16 * (c * c) := by
  have e0 : ∀ x : Nat, x * c * (x * c) * K = x * x * K * (c * c) := fun x => by simp only [Nat.mul_comm, Nat.mul_left_comm, Nat.mul_assoc]
  have e1 : w * 16 * (c * c) * (K + 1) = w * 16 * (K + 1) * (c * c) := by rw [Nat.mul_assoc, Nat.mul_comm (c * c), ← Nat.mul_assoc]
  have e2 : w * 16 * (c * c) * K = w * 16 * K * (c * c) := by rw [Nat.mul_assoc, Nat.mul_comm (c * c), ← Nat.mul_assoc]
  rw [e0, e1, e2, ← Nat.add_mul]
  have key : (z * 2 ^ 2 + b.toNat) * (z * 2 ^ 2 + b.toNat) * K ≤ w * 16 * (K + 1) ∧ w * 16 * K ≤ (z * 2 ^ 2 + b.toNat) * (z * 2 ^ 2 + b.toNat) * K + w * 16 := by
    by_cases g : z * z = w
    · rw [hb, decide_eq_false (by simpa using g)]
      rw [show (z * 2 ^ 2 + false.toNat) * (z * 2 ^ 2 + false.toNat) = z * z * 16 by
        show (z * 4 + 0) * (z * 4 + 0) = _
        rw [Nat.add_zero, Nat.mul_assoc, Nat.mul_left_comm 4, ← Nat.mul_assoc], g]
      rw [Nat.mul_add, Nat.mul_one]
      omega
    · rw [hb, decide_eq_true g]
      have e3 : (z * 2 ^ 2 + true.toNat) * (z * 2 ^ 2 + true.toNat) = z * z * 16 + (8 * z + 1) := by
        show (z * 4 + 1) * (z * 4 + 1) = _
        rw [Nat.mul_add, Nat.add_mul, Nat.mul_one, Nat.one_mul, show z * 4 * (z * 4) = z * z * 16 by rw [Nat.mul_assoc, Nat.mul_left_comm 4, ← Nat.mul_assoc]]
        omega
      have e4 : (z + 1) * (z + 1) = z * z + (2 * z + 1) := by rw [Nat.mul_add, Nat.add_mul, Nat.mul_one, Nat.one_mul]; omega
      rw [e4] at h2
      rw [e3, Nat.add_mul, Nat.add_mul, Nat.one_mul, Nat.mul_add, Nat.mul_one]
      have p1 : 2 * K * z ≤ z * z := Nat.mul_le_mul_right z hK
      have p2 : K ≤ z * K := Nat.le_mul_of_pos_left _ (by omega)
      have p3 : 8 * z * K = 4 * (2 * K * z) := by rw [show 2 * K * z = 2 * (z * K) by rw [Nat.mul_assoc, Nat.mul_comm K], Nat.mul_assoc]; omega
      have p4 : 2 * K * z = 2 * (z * K) := by rw [Nat.mul_assoc, Nat.mul_comm K]
      have p5 : w * 16 * K = (w * K) * 16 := by rw [Nat.mul_assoc, Nat.mul_comm 16, ← Nat.mul_assoc]
      have p6 : z * z * 16 * K = (z * z * K) * 16 := by rw [Nat.mul_assoc, Nat.mul_comm 16, ← Nat.mul_assoc]
      have p7 : z * z * K ≤ w * K := Nat.mul_le_mul_right _ h1
      have p8 : w * K ≤ z * z * K + 2 * (z * K) := by
        have := Nat.mul_le_mul_right K (show w ≤ z * z + 2 * z by omega)
        rw [Nat.add_mul, Nat.mul_assoc 2] at this
        exact this
      rw [p3, p5, p6, p4]
      rw [p4] at p1
      generalize z * K = zK at *
      generalize w * K = wK at *
      generalize z * z * K = zzK at *
      generalize z * z = zz at *
      omega
  exact ⟨Nat.mul_le_mul_right _ key.1, Nat.mul_le_mul_right _ key.2⟩
theorem sq_le (z w t : Nat) (h1 : z * z ≤ w) (h2 : w ≤ t * t) : z ≤ t := by
  refine Nat.le_of_not_lt fun g => ?_
  have := Nat.mul_lt_mul'' g g
  exact absurd (Nat.lt_of_lt_of_le this (Nat.le_trans h1 h2)) (Nat.lt_irrefl _)
theorem sq_ge (z w t : Nat) (h1 : w < (z + 1) * (z + 1)) (h2 : t * t ≤ w) : t ≤ z := by
  refine Nat.le_of_not_lt fun g => ?_
  have := Nat.mul_le_mul g g
  exact absurd (Nat.lt_of_lt_of_le h1 this) (Nat.not_lt.2 h2)
theorem four_z (z t c : Nat) (h : z ≤ t) (hc : c ≤ 1) (ht : 1 ≤ t) : z * 4 + c ≤ t * 8 := by omega
theorem up1 (R Y U : Nat) (h : R * U ≤ Y * U + Y) : R * U ≤ Y * (U + 1) := by rw [Nat.mul_succ]; exact h
theorem low1 (R Y k : Nat) (h : Y * (k + 1) ≤ R * (k + 1) + Y) : Y * k ≤ R * (k + 1) := by
  rw [Nat.mul_succ Y k] at h
  exact Nat.le_of_add_le_add_right h
/-- The root of a number from 2^-1054 to 2^100: near a Y whose square is near the number. -/
theorem root_err (v : Nat) (h0 : 2 ^ 20 ≤ v) (h1 : v ≤ 2 ^ (uu + 100)) : ∃ Y : Nat, rootN v < 9218868437227405312 ∧ V (rootN v) * 9007199254740992 ≤ Y * 9007199254740993 ∧ Y * 9007199254740991 ≤ V (rootN v) * 9007199254740992 ∧
    Y * Y * 81129638414606681695789005144064 ≤ v * 2 ^ uu * 81129638414606681695789005144065 ∧ v * 2 ^ uu * 81129638414606681695789005144063 ≤ Y * Y * 81129638414606681695789005144064 := by
  have hu := uu_is
  have hw := ww_is
  have hH := hh_is
  obtain ⟨s1, s2⟩ := isq_spec (v * 2 ^ ww)
  have hr := root_num v
  generalize hz : isq (v * 2 ^ ww) = z at *
  generalize hb : decide (z * z ≠ v * 2 ^ ww) = b at *
  have zlo : 2 * 81129638414606681695789005144064 ≤ z := by
    rw [show 2 * 81129638414606681695789005144064 = 2 ^ 107 by decide]
    refine sq_ge z _ _ s2 (Nat.le_trans ?_ (Nat.mul_le_mul_right (2 ^ ww) h0))
    rw [← Nat.pow_add, ← Nat.pow_add]
    exact Nat.pow_le_pow_right (by decide) (by omega)
  have zhi : z ≤ 2 ^ (ww + 487) := by
    refine sq_le z _ _ s1 (Nat.le_trans (Nat.mul_le_mul_right (2 ^ ww) h1) ?_)
    rw [← Nat.pow_add, ← Nat.pow_add]
    exact Nat.pow_le_pow_right (by decide) (by omega)
  have hX : (z * 2 ^ 2 + b.toNat) * 2 ^ hh ≤ 2 ^ (ww + 490 + hh) := by
    rw [Nat.pow_add 2 (ww + 490) hh]
    refine Nat.mul_le_mul_right _ ?_
    have hbt : b.toNat ≤ 1 := by cases b <;> decide
    rw [show ww + 490 = ww + 487 + 3 from rfl, Nat.pow_add 2 (ww + 487) 3, show (2 : Nat) ^ 2 = 4 from rfl, show (2 : Nat) ^ 3 = 8 from rfl]
    exact four_z z _ _ zhi hbt (Nat.two_pow_pos _)
  have hfl := flag_1074 _ (flag_pow _ (-1074) _ hX (by omega))
  obtain ⟨g1, g2, g3⟩ := err_num _ 0 (-1074) (by omega) hfl
  rw [← hr, Nat.pow_zero, Nat.mul_one] at g2 g3
  rw [← hr] at g1
  have hsq := root_sq (v * 2 ^ ww) z (2 ^ hh) 81129638414606681695789005144064 b hb.symm s1 s2 zlo (by decide)
  have hW : v * 2 ^ ww * 16 * (2 ^ hh * 2 ^ hh) = v * 2 ^ uu := by
    rw [show (16 : Nat) = 2 ^ 4 by decide, Nat.mul_assoc v, Nat.mul_assoc v, ← Nat.pow_add, ← Nat.pow_add, ← Nat.pow_add, show ww + 4 + (hh + hh) = uu by omega]
  rw [hW] at hsq
  generalize (z * 2 ^ 2 + b.toNat) * 2 ^ hh = Y at *
  exact ⟨Y, g1, up1 _ _ _ g2, low1 _ _ 9007199254740991 g3, hsq.1, low1 (Y * Y) (v * 2 ^ uu) 81129638414606681695789005144063 hsq.2⟩
end Go.Proofs.Ytokgfeeaoioegaa
