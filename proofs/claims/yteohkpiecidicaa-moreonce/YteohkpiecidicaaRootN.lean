/-
  The mathematics of MoreOnce: a product with one, a sum with nothing; a root lies between its neighbours, and their squares with a sum taken once tell so.
-/
import Derived.Test.YteohkpiecidicaaRootM
import Derived.Test.YteohkpiecidicaaFmaM
namespace Go.Proofs.Yteohkpiecidicaa
open Go.RowKit
set_option linter.unusedVariables false

theorem rnd2_s (s : Int) : rnd2 (s * ((2 ^ uu : Nat) : Int)) = rndS s := by
  have hp := Nat.two_pow_pos uu
  have hu := uu_is
  unfold rnd2 rndS
  rw [Int.natAbs_mul, Int.natAbs_natCast, numP_scale, flagP_scale, show (-2148 : Int) + (uu : Int) = -1074 by omega]
  generalize 2 ^ uu = q at *
  have e : decide (s * (q : Int) < 0) = decide (s < 0) := by
    rw [decide_eq_decide]
    constructor
    · intro h
      rcases Int.lt_or_le s 0 with g | g
      · exact g
      · have := Int.mul_nonneg g (show (0 : Int) ≤ (q : Int) by omega); omega
    · intro h
      exact Int.mul_neg_of_neg_of_pos h (by omega)
  rw [e]
theorem V_one' : V 4607182418800017408 = 2 ^ uu := by
  have hu := uu_nat
  rw [V_one]
  exact one_is 1022 uu (by omega)
theorem one_facts : isNan 4607182418800017408 = false ∧ isInf 4607182418800017408 = false ∧ isZ 4607182418800017408 = false ∧ sgn 4607182418800017408 = false ∧ sigs 4607182418800017408 = false ∧ mag 4607182418800017408 = 4607182418800017408 := by decide +kernel
theorem pv_one (a : Int) : pv a 4607182418800017408 = sv a * ((2 ^ uu : Nat) : Int) := by
  obtain ⟨o1, o2, o3, o4, o5, o6⟩ := one_facts
  unfold pv sv
  rw [o4, o6, V_one', Bool.bne_false]
  generalize 2 ^ uu = q
  cases sgn a
  · simp
  · simp only [if_true]; rw [Int.natCast_mul, Int.neg_mul]
theorem fma_one (a b : Int) (h0 : 0 ≤ a) (h1 : a < 18446744073709551616) (g0 : 0 ≤ b) (g1 : b < 18446744073709551616) : fmaS a 4607182418800017408 b = addS a b := by
  obtain ⟨o1, o2, o3, o4, o5, o6⟩ := one_facts
  have hw := whole a h0 h1
  unfold fmaS
  rw [o1, o2, o3, o4, Bool.and_false, Bool.and_false, Bool.or_self, if_neg (by simp), Bool.or_false, Bool.or_false, Bool.or_false, Bool.bne_false]
  by_cases hn : (isNan a || isNan b) = true
  · rw [if_pos hn]
    unfold addS nanF3 nanF
    rw [if_pos hn, o5, Bool.or_false]
  · rw [if_neg hn]
    have hna : isNan a = false := by revert hn; cases isNan a <;> simp
    have hnb : isNan b = false := by revert hn; cases isNan b <;> simp
    by_cases hi : isInf a = true
    · rw [if_pos hi]
      have : sgnB (sgn a) + 9218868437227405312 = a := by
        unfold isInf at hi
        rw [decide_eq_true_eq] at hi
        rw [hi] at hw
        exact hw.symm
      rw [this]
    · rw [if_neg hi]
      have hi' : isInf a = false := by simpa using hi
      by_cases hj : isInf b = true
      · rw [if_pos hj]
        unfold addS
        rw [if_neg hn, hi', if_neg (by simp), if_neg (by simp), if_pos hj]
      · have hj' : isInf b = false := by simpa using hj
        rw [if_neg hj, addS_fin a b (mag_fin a hna hi') (mag_fin b hnb hj')]
        cases hz : (isZ a && isZ b)
        · rw [if_neg (by simp), if_neg (by simp), pv_one, ← Int.add_mul, rnd2_s]
        · rw [if_pos rfl, if_pos rfl]
          rw [Bool.and_eq_true] at hz
          rw [z_whole a h0 h1 ((z_iff a).1 hz.1), addS_fin a b (mag_fin a hna hi') (mag_fin b hnb hj'), hz.1, hz.2, if_pos (by rfl)]
theorem zero_facts (n : Bool) : isNan (sgnB n) = false ∧ isInf (sgnB n) = false ∧ isZ (sgnB n) = true ∧ sgn (sgnB n) = n ∧ sigs (sgnB n) = false ∧ mag (sgnB n) = 0 := by cases n <;> decide +kernel
theorem fma_none (a b : Int) (n : Bool) (hn : (sgn a != sgn b) = n) : fmaS a b (sgnB n) = mulS a b := by
  obtain ⟨o1, o2, o3, o4, o5, o6⟩ := zero_facts n
  by_cases hna : (isNan a || isNan b) = true
  · have hbad : ((isInf a && isZ b) || (isZ a && isInf b)) = false := by
      rw [Bool.or_eq_true] at hna
      rcases hna with hna | hna
      · rw [(nan_not a hna).1, (nan_not a hna).2]; rfl
      · rw [(nan_not b hna).1, (nan_not b hna).2, Bool.and_false, Bool.and_false]; rfl
    unfold fmaS mulS nanF3 nanF
    rw [hbad, if_neg (by simp), o1, o5, Bool.or_false, Bool.or_false, if_pos hna, if_pos hna]
  · have ha : isNan a = false := by revert hna; cases isNan a <;> simp
    have hb : isNan b = false := by revert hna; cases isNan b <;> simp
    by_cases hbad : ((isInf a && isZ b) || (isZ a && isInf b)) = true
    · unfold fmaS mulS
      rw [if_pos hbad, if_neg hna, if_pos hbad]
    · by_cases hi : (isInf a || isInf b) = true
      · obtain ⟨p1, p2⟩ := sgn_inf n
        unfold fmaS mulS
        rw [if_neg hbad, o1, Bool.or_false, if_neg hna, if_pos hi, if_neg hna, if_neg hbad, if_pos hi, hn]
        unfold addS
        rw [p1, p2, o1, o2, if_neg (by simp), if_neg (by simp), if_pos rfl]
      · have hi1 : isInf a = false := by revert hi; cases isInf a <;> simp
        have hi2 : isInf b = false := by revert hi; cases isInf b <;> simp
        have fa := mag_fin a ha hi1
        have fb := mag_fin b hb hi2
        by_cases za : mag a = 0
        · have hs := sgnB_le n
          rw [fma_zero a b (sgnB n) (by omega) (by omega) fa fb (by omega) (Or.inl za), mulS_fin a b fa fb, za, V_zero, Nat.zero_mul, numP_zero, hn]
          simp only [Int.add_zero, show ((0 : Nat) : Int) = 0 from rfl]
          rw [addS_fin _ _ (by omega) (by omega), o3, if_pos (by rfl), o4, Bool.and_self]
          have : flagP 0 (-2148) = 0 := by unfold flagP patP; simp
          rw [this]; rfl
        · by_cases zb : mag b = 0
          · have hs := sgnB_le n
            rw [fma_zero a b (sgnB n) (by omega) (by omega) fa fb (by omega) (Or.inr zb), mulS_fin a b fa fb, zb, V_zero, Nat.mul_zero, numP_zero, hn]
            simp only [Int.add_zero, show ((0 : Nat) : Int) = 0 from rfl]
            rw [addS_fin _ _ (by omega) (by omega), o3, if_pos (by rfl), o4, Bool.and_self]
            have : flagP 0 (-2148) = 0 := by unfold flagP patP; simp
            rw [this]; rfl
          · exact fma_cz a b (sgnB n) fa fb o6 za zb
/-- A root, rounded, isn't less than any number whose square isn't more; nor more than any whose square isn't less. -/
theorem root_up (v q : Nat) (hv : 0 < v) (hq : q < 9218868437227405312) (h : V q * V q ≤ v * 2 ^ uu) : q ≤ rootN v := by
  have hs := s437_is
  rw [root_with v s437 hv, lift_437, show (-637 : Int) - (s437 : Int) = -1074 by omega]
  have h1 := isq_le _ _ h
  generalize decide (isq (v * 2 ^ uu) * isq (v * 2 ^ uu) ≠ v * 2 ^ uu) = st
  generalize isq (v * 2 ^ uu) = R at *
  unfold numM
  have h2 := numP_mono (V q * 2 ^ 2) (R * 2 ^ 2 + st.toNat) (-1074 - ((2 : Nat) : Int)) (by omega)
  rw [numP_scale, show (-1074 : Int) - ((2 : Nat) : Int) + ((2 : Nat) : Int) = -1074 by decide, (num_V q hq).1] at h2
  exact h2
theorem root_down (v q : Nat) (hv : 0 < v) (hq : q < 9218868437227405312) (h : v * 2 ^ uu ≤ V q * V q) : rootN v ≤ q := by
  have hs := s437_is
  rw [root_with v s437 hv, lift_437, show (-637 : Int) - (s437 : Int) = -1074 by omega]
  obtain ⟨s1, s2⟩ := isq_spec (v * 2 ^ uu)
  generalize v * 2 ^ uu = N at *
  have h1 : isq N ≤ V q := by
    rcases Nat.lt_or_ge (V q) (isq N) with g | g
    · have := Nat.mul_lt_mul'' g g; omega
    · exact g
  have h3 : isq N * 2 ^ 2 + (decide (isq N * isq N ≠ N)).toNat ≤ V q * 2 ^ 2 := by
    have ht : (decide (isq N * isq N ≠ N)).toNat ≤ 1 := Bool.toNat_le _
    rcases Nat.lt_or_ge (isq N) (V q) with g | g
    · omega
    · have e : isq N = V q := by omega
      have : decide (isq N * isq N ≠ N) = false := decide_eq_false (by rw [e] at s1 ⊢; omega)
      rw [this, e]
      simp
  unfold numM
  have h2 := numP_mono _ _ (-1074 - ((2 : Nat) : Int)) h3
  rw [numP_scale, show (-1074 : Int) - ((2 : Nat) : Int) + ((2 : Nat) : Int) = -1074 by decide, (num_V q hq).1] at h2
  exact h2
theorem V_two_pow (k d : Nat) (hk : k = d + 1) : V (k * 4503599627370496) = 2 ^ (52 + d) := by
  have h := V_split 4503599627370496 d (by decide) (Or.inl (by decide))
  rw [show 4503599627370496 + d * 4503599627370496 = k * 4503599627370496 by omega] at h
  rw [h, Nat.pow_add]
theorem big_v (p k d : Nat) (hk : k = d + 1) (h : k * 4503599627370496 ≤ p) : 2 ^ (52 + d) ≤ V p := by
  have := V_mono _ _ h
  rw [V_two_pow k d hk] at this
  exact this
theorem small_v (p k d : Nat) (hk : k = d + 1) (h : p ≤ k * 4503599627370496) : V p ≤ 2 ^ (52 + d) := by
  have := V_mono _ _ h
  rw [V_two_pow k d hk] at this
  exact this
theorem pow_sq (k : Nat) : 2 ^ k * 2 ^ k = 2 ^ (k + k) := (Nat.pow_add 2 k k).symm
theorem box_up (v k d b t : Nat) (hk : k = d + 1) (hb : 2 ^ b ≤ v) (h : (52 + d) + (52 + d) ≤ b + t) : V (k * 4503599627370496) * V (k * 4503599627370496) ≤ v * 2 ^ t := by
  rw [V_two_pow k d hk, pow_sq]
  refine Nat.le_trans ?_ (Nat.mul_le_mul_right _ hb)
  rw [← Nat.pow_add]
  exact Nat.pow_le_pow_right (by decide) h
theorem box_down (v k d b t : Nat) (hk : k = d + 1) (hb : v ≤ 2 ^ b) (h : b + t ≤ (52 + d) + (52 + d)) : v * 2 ^ t ≤ V (k * 4503599627370496) * V (k * 4503599627370496) := by
  rw [V_two_pow k d hk, pow_sq]
  refine Nat.le_trans (Nat.mul_le_mul_right _ hb) ?_
  rw [← Nat.pow_add]
  exact Nat.pow_le_pow_right (by decide) h
theorem root_box (p : Nat) (h : 100 * 4503599627370496 ≤ p) (hp : p < 9218868437227405312) : 561 * 4503599627370496 ≤ rootN (V p) ∧ rootN (V p) ≤ 1535 * 4503599627370496 := by
  have hb := big_v p 100 99 rfl h
  have hs := small_v p 2047 2046 rfl (by omega)
  have hu := uu_nat
  have hv : 0 < V p := V_pos p (by omega)
  exact ⟨root_up _ _ hv (by decide) (box_up _ 561 560 (52 + 99) uu rfl hb (by omega)), root_down _ _ hv (by decide) (box_down _ 1535 1534 (52 + 2046) uu rfl hs (by omega))⟩
theorem root_near (p R : Nat) (h : 100 * 4503599627370496 ≤ p) (hp : p < 9218868437227405312) (hR : rootN (V p) = R) : V (R - 1) * V (R - 1) < V p * 2 ^ uu ∧ V p * 2 ^ uu + 2 ^ uu ≤ V (R + 1) * V (R + 1) := by
  obtain ⟨b1, b2⟩ := root_box p h hp
  rw [hR] at b1 b2
  have hv : 0 < V p := V_pos p (by omega)
  have hu := uu_nat
  refine ⟨?_, ?_⟩
  · rcases Nat.lt_or_ge (V (R - 1) * V (R - 1)) (V p * 2 ^ uu) with g | g
    · exact g
    · have := root_down (V p) (R - 1) hv (by omega) g
      rw [hR] at this
      omega
  · have hlt : V p * 2 ^ uu < V (R + 1) * V (R + 1) := by
      rcases Nat.lt_or_ge (V p * 2 ^ uu) (V (R + 1) * V (R + 1)) with g | g
      · exact g
      · have := root_up (V p) (R + 1) hv (by omega) g
        rw [hR] at this
        omega
    obtain ⟨k, d, e1, e2, e3, e4⟩ := V_form (R + 1)
    have hd : 559 < d := by omega
    obtain ⟨c, hc⟩ : ∃ c, d + d = c + uu := ⟨d + d - uu, by omega⟩
    have e5 : V (R + 1) * V (R + 1) = k * k * 2 ^ c * 2 ^ uu := by
      rw [e2, Nat.mul_assoc (k * k), ← Nat.pow_add, ← hc, Nat.pow_add]
      grind
    rw [e5] at hlt ⊢
    have := Nat.lt_of_mul_lt_mul_right hlt
    have h2 := Nat.mul_le_mul_right (2 ^ uu) (show V p + 1 ≤ k * k * 2 ^ c from this)
    rw [Nat.add_mul, Nat.one_mul] at h2
    exact h2
theorem fma_sq (q : Nat) (c : Int) (hq : q < 9218868437227405312) (hc : mag c < 9218868437227405312) (hz : mag c ≠ 0) : fmaS (q : Int) (q : Int) c = rnd2 (((V q * V q : Nat) : Int) + sv c * ((2 ^ uu : Nat) : Int)) := by
  have hm : mag (q : Int) = q := by unfold mag; omega
  have ha : mag (q : Int) < 9218868437227405312 := by omega
  unfold fmaS
  rw [bad_fin _ _ ha ha, if_neg (by simp), (fin_facts _ ha).1, (fin_facts c hc).1, (fin_facts _ ha).2, (fin_facts c hc).2, if_neg (by simp), if_neg (by simp), if_neg (by simp), (z_not c).2 hz, Bool.and_false, if_neg (by simp)]
  have : pv (q : Int) (q : Int) = ((V q * V q : Nat) : Int) := by unfold pv; rw [hm]; simp
  rw [this]
theorem num_one : numP (2 ^ uu) (-2148) = 1 := by
  have hu := uu_is
  have h := numP_scale 1 (-2148) uu
  rw [Nat.one_mul, show (-2148 : Int) + (uu : Int) = -1074 by omega] at h
  rw [h]
  unfold numP
  rw [patP_exact 1 (-1074) (by decide) (by decide) (by decide) (by decide)]
  decide
/-- What the squares of a root's neighbours tell, with the number taken off. -/
theorem root_tells (a : Int) (h0 : 0 ≤ a) (h1 : a < 18446744073709551616) (hs : sgn a = false) (hf : mag a < 9218868437227405312) (he : 100 * 4503599627370496 ≤ mag a) (r : Int) (hr : (sqrtS a).1 = r) :
    0 ≤ r ∧ r < 18446744073709551616 ∧ wPrev r = r - 1 ∧ wNext r = r + 1 ∧ 0 ≤ r - 1 ∧ r + 1 < 18446744073709551616 ∧ sgn (fmaS (r - 1) (r - 1) (wFlip a)).1 = true ∧ sgn (fmaS (r + 1) (r + 1) (wFlip a)).1 = false ∧ mag (fmaS (r + 1) (r + 1) (wFlip a)).1 ≠ 0 := by
  have hfl := wFlip_bd a
  have hz : mag a ≠ 0 := by omega
  have hS : (sqrtS a).1 = ((rootN (V (mag a)) : Nat) : Int) := by
    unfold sqrtS
    rw [(fin_facts a hf).1, if_neg (by simp), (z_not a).2 hz, if_neg (by simp), if_neg (by unfold mag at hf; omega), hs, if_neg (by simp)]
  obtain ⟨R, hR⟩ : ∃ R, rootN (V (mag a)) = R := ⟨_, rfl⟩
  rw [hS, hR] at hr
  obtain ⟨b1, b2⟩ := root_box (mag a) he hf
  rw [hR] at b1 b2
  obtain ⟨k1, k2⟩ := root_near (mag a) R he hf hR
  subst hr
  have hR1 : ((R : Int) - 1) = ((R - 1 : Nat) : Int) := by omega
  have hR2 : ((R : Int) + 1) = ((R + 1 : Nat) : Int) := by omega
  have hsv : sv (wFlip a) = -((V (mag a) : Nat) : Int) := by
    rw [flip_sv a h0 h1]
    unfold sv
    rw [hs]
    simp
  have hmf := flip_mag a h0 h1
  have hp := Nat.two_pow_pos uu
  refine ⟨by omega, by omega, ?_, ?_, by omega, by omega, ?_, ?_, ?_⟩
  · rw [wPrev_eq _ (by omega) (by omega), if_neg (by omega), if_neg (by omega), if_neg (by omega)]
  · rw [wNext_eq, if_neg (by omega), if_neg (by omega), if_neg (by omega)]
  · rw [hR1, fma_sq (R - 1) (wFlip a) (by omega) (by omega) (by omega), hsv]
    have hlt : ((V (R - 1) * V (R - 1) : Nat) : Int) + -((V (mag a) : Nat) : Int) * ((2 ^ uu : Nat) : Int) < 0 := by
      rw [Int.neg_mul, ← Int.natCast_mul]
      generalize V (R - 1) * V (R - 1) = x at *
      generalize V (mag a) * 2 ^ uu = y at *
      omega
    unfold rnd2
    simp only
    rw [decide_eq_true hlt]
    have hn := numP_le (((V (R - 1) * V (R - 1) : Nat) : Int) + -((V (mag a) : Nat) : Int) * ((2 ^ uu : Nat) : Int)).natAbs (-2148)
    generalize numP (((V (R - 1) * V (R - 1) : Nat) : Int) + -((V (mag a) : Nat) : Int) * ((2 ^ uu : Nat) : Int)).natAbs (-2148) = z at *
    exact (sgn_mag true z (by omega)).2.1
  all_goals
    rw [hR2, fma_sq (R + 1) (wFlip a) (by omega) (by omega) (by omega), hsv]
    have hge : ∃ t : Nat, ((V (R + 1) * V (R + 1) : Nat) : Int) + -((V (mag a) : Nat) : Int) * ((2 ^ uu : Nat) : Int) = (t : Int) ∧ 2 ^ uu ≤ t := by
      rw [Int.neg_mul, ← Int.natCast_mul]
      generalize V (R + 1) * V (R + 1) = x at *
      generalize V (mag a) * 2 ^ uu = y at *
      generalize 2 ^ uu = z at *
      exact ⟨x - y, by omega, by omega⟩
    obtain ⟨t, e, ht⟩ := hge
    rw [e]
    unfold rnd2
    simp only
    rw [Int.natAbs_natCast, decide_eq_false (by omega)]
    have hn := numP_le t (-2148)
    have hm := numP_mono (2 ^ uu) t (-2148) ht
    rw [num_one] at hm
    generalize numP t (-2148) = z at *
  · exact (sgn_mag false z (by omega)).2.1
  · rw [(sgn_mag false z (by omega)).1]; omega
end Go.Proofs.Yteohkpiecidicaa
