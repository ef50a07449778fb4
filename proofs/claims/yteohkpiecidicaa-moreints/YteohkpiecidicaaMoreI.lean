/-
  The mathematics of MoreInts: a whole number of at most 2^63, rounded, is a whole number, exact or not.
-/
import Derived.Test.YteohkpiecidicaaMoreM
import Derived.Test.YteohkpiecidicaaRef02E
namespace Go.Proofs.Yteohkpiecidicaa
set_option linter.unusedVariables false

theorem q63 : numP 9223372036854775808 0 = 4890909195324358656 := by
  have h := numP_scale 4503599627370496 0 11
  rw [show 4503599627370496 * 2 ^ 11 = 9223372036854775808 by decide] at h
  rw [h]
  unfold numP
  rw [patP_exact 4503599627370496 (0 + ((11 : Nat) : Int)) (by decide) (by decide) (by decide) (by decide)]
  decide
theorem q63_V : V 4890909195324358656 = 9223372036854775808 * 2 ^ uu := by
  have h := V_split 4503599627370496 1085 (by decide) (by decide)
  rw [show 4503599627370496 + 1085 * 4503599627370496 = 4890909195324358656 by decide] at h
  have hu := uu_nat
  rw [h, show 1085 = 11 + uu by omega, Nat.pow_add, ← Nat.mul_assoc]
theorem lost_zero (e : Int) : lostP 0 e = false := by
  unfold lostP lostI
  rw [Nat.zero_mod]
  simp
theorem from_math (m : Nat) (hm : m ≤ 9223372036854775808) : ∃ lo : Bool, numP m 0 ≤ 4890909195324358656 ∧ flagP m 0 = (if lo then 1 else 0) ∧ (V (numP m 0) = m * 2 ^ uu ↔ lo = false) ∧ V (numP m 0) % 2 ^ uu = 0
    ∧ V (numP m 0) / 2 ^ uu ≤ 9223372036854775808 ∧ (V (numP m 0) / 2 ^ uu = 9223372036854775808 → numP m 0 = 4890909195324358656) ∧ (lo = false → V (numP m 0) / 2 ^ uu = m) := by
  have hu := uu_is
  have hp := Nat.two_pow_pos uu
  have hP := numP_mono m 9223372036854775808 0 hm
  rw [q63] at hP
  have e1 : patP (m * 2 ^ uu) (-1074) = patP m 0 := by rw [patP_scale]; congr 1
  have e2 : patP m 0 = numP m 0 := by unfold numP at hP ⊢; omega
  have hVle := V_mono _ _ hP
  rw [q63_V] at hVle
  have hdiv : V (numP m 0) / 2 ^ uu ≤ 9223372036854775808 := by
    have := Nat.div_le_div_right (c := 2 ^ uu) hVle
    rw [Nat.mul_div_cancel _ hp] at this
    exact this
  have key : ∃ lo : Bool, flagP m 0 = (if lo then 1 else 0) ∧ (V (numP m 0) = m * 2 ^ uu ↔ lo = false) ∧ V (numP m 0) % 2 ^ uu = 0 := by
    rcases Nat.eq_zero_or_pos m with h0 | h0
    · subst h0
      refine ⟨false, ?_, ?_, ?_⟩
      · unfold flagP patP; simp
      · rw [numP_zero, V_zero]; simp
      · rw [numP_zero, V_zero, Nat.zero_mod]
    · have hl : lostP (m * 2 ^ uu) (-1074) = lostP m 0 := by rw [lostP_scale _ _ _ h0]; congr 1
      have hlen : 0 < (bl m).length := (bl_length_lt m 0).2 (by rw [Nat.pow_zero]; exact h0)
      have hsm : smallP m 0 = false := by unfold smallP; exact decide_eq_false (by omega)
      cases lo : lostP m 0
      · refine ⟨false, ?_, ?_, ?_⟩
        · unfold flagP
          rw [lo, if_neg (by omega), if_neg (by simp)]
          rfl
        · have := V_exact (m * 2 ^ uu) (by rw [hl, lo])
          rw [e1, e2] at this
          rw [this]; simp
        · have := V_exact (m * 2 ^ uu) (by rw [hl, lo])
          rw [e1, e2] at this
          rw [this, Nat.mul_mod_left]
      · refine ⟨true, ?_, ?_, ?_⟩
        · unfold flagP
          rw [lo, hsm, if_neg (by omega), if_pos ⟨by omega, rfl⟩, if_neg (by simp)]
          rfl
        · constructor
          · intro h
            exfalso
            rcases lostP_V (numP m 0) with g | g
            · rw [h, hl, lo] at g; exact absurd g (by simp)
            · rw [h] at g
              have := Nat.mul_pos h0 hp
              omega
          · intro h; exact absurd h (by simp)
        · have hd : 0 < lastP m 0 := by
            unfold lostP lostI at lo
            rw [decide_eq_true_eq] at lo
            omega
          have hv := V_pat (m * 2 ^ uu) (Nat.mul_pos h0 hp)
          rw [e1, e2, lastP_scale _ _ _ h0, show (-1074 : Int) + (uu : Int) = 0 by omega] at hv
          rw [hv, show (lastP m 0 + 1074).toNat = (lastP m 0).toNat + uu by omega, Nat.pow_add, ← Nat.mul_assoc, Nat.mul_mod_left]
  obtain ⟨lo, k1, k2, k3⟩ := key
  refine ⟨lo, hP, k1, k2, k3, hdiv, ?_, ?_⟩
  · intro h
    apply V_inj
    rw [q63_V, ← h]
    have := Nat.div_add_mod (V (numP m 0)) (2 ^ uu)
    rw [k3, Nat.add_zero, Nat.mul_comm] at this
    exact this.symm
  · intro h
    rw [k2.2 h, Nat.mul_div_cancel _ hp]
theorem cmp_three (m n : Nat) : (m < n ∧ cmpI m n = -1) ∨ (m = n ∧ cmpI m n = 0) ∨ (n < m ∧ cmpI m n = 1) := by
  unfold cmpI
  rcases Nat.lt_trichotomy m n with h | h | h
  · left; exact ⟨h, by rw [if_pos h]⟩
  · right; left; exact ⟨h, by rw [if_neg (by omega), if_pos h]⟩
  · right; right; exact ⟨h, by rw [if_neg (by omega), if_neg (by omega)]⟩
theorem to_fin (a : Int) (hf : mag a < 9218868437227405312) (D : Nat) (lo sa : Bool) (hD : V (mag a) / 2 ^ uu = D) (hlo : lostB (V (mag a)) uu = lo) (hs : sgn a = sa) :
    toS a = if (if sa then 9223372036854775808 else 9223372036854775807) < D then (0, 16) else (if sa then -(D : Int) else (D : Int), if lo then 1 else 0) := by
  unfold toS
  unfold lostB at hlo
  rw [if_neg (by omega), hD, hs]
  congr 2
  cases lo
  · rw [decide_eq_false_iff_not] at hlo; rw [if_neg hlo]; rfl
  · rw [decide_eq_true_eq] at hlo; rw [if_pos hlo]; rfl
theorem to_pick (D : Nat) (sa lo : Bool) (N F : Int) (hN : (if (if sa then 9223372036854775808 else 9223372036854775807) < D then ((0 : Int), (16 : Int)) else (if sa then -(D : Int) else (D : Int), if lo then 1 else 0)).1 = N) (hF : (if (if sa then 9223372036854775808 else 9223372036854775807) < D then ((0 : Int), (16 : Int)) else (if sa then -(D : Int) else (D : Int), if lo then 1 else 0)).2 = F) :
    (9223372036854775808 < D → N = 0 ∧ F = 16) ∧ (D = 9223372036854775808 → sa = false → N = 0 ∧ F = 16) ∧ (D = 9223372036854775808 → sa = true → N = -9223372036854775808) ∧ (D < 9223372036854775808 → sa = true → N = -(D : Int)) ∧ (D < 9223372036854775808 → sa = false → N = (D : Int)) ∧ (D < 9223372036854775808 ∨ (D = 9223372036854775808 ∧ sa = true) → lo = true → F = 1) ∧ (D < 9223372036854775808 ∨ (D = 9223372036854775808 ∧ sa = true) → lo = false → F = 0) := by
  refine ⟨fun h => ?_, fun h g => ?_, fun h g => ?_, fun h g => ?_, fun h g => ?_, fun h g => ?_, fun h g => ?_⟩
  · rw [if_pos (by split <;> omega)] at hN hF; exact ⟨hN.symm, hF.symm⟩
  · subst g; rw [if_pos (by simp; omega)] at hN hF; exact ⟨hN.symm, hF.symm⟩
  · subst g; rw [if_neg (by simp; omega)] at hN; simp at hN; omega
  · subst g; rw [if_neg (by simp; omega)] at hN; simp at hN; omega
  · subst g; rw [if_neg (by simp; omega)] at hN; simp at hN; omega
  · subst g
    have : ¬ (if sa then 9223372036854775808 else 9223372036854775807) < D := by
      rcases h with h | ⟨h, rfl⟩
      · split <;> omega
      · simp; omega
    rw [if_neg this] at hF; simp at hF; omega
  · subst g
    have : ¬ (if sa then 9223372036854775808 else 9223372036854775807) < D := by
      rcases h with h | ⟨h, rfl⟩
      · split <;> omega
      · simp; omega
    rw [if_neg this] at hF; simp at hF; omega
end Go.Proofs.Yteohkpiecidicaa
