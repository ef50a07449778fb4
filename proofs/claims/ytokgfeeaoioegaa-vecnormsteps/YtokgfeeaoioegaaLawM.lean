/-
  What sums, products and quotients of patterns keep to (plain mathematics, no program in sight): order, ones, noughts, signs, exact differences.
-/
import Derived.Test.YtokgfeeaoioegaaRndM
namespace Go.Proofs.Ytokgfeeaoioegaa
set_option linter.unusedVariables false

theorem nanF_comm (a b : Int) : nanF a b = nanF b a := by unfold nanF; rw [Bool.or_comm]
theorem addS_comm (a b : Int) : addS a b = addS b a := by
  unfold addS
  rw [nanF_comm, Bool.or_comm, Bool.and_comm (isInf a), Bool.and_comm (isZ a), Bool.and_comm (sgn a), Int.add_comm (sv a)]
  by_cases h : a = b
  · subst h; rfl
  · rw [show decide (a ≠ b) = decide (b ≠ a) by rw [decide_eq_decide]; exact ne_comm]
    rw [show decide (b ≠ a) = true from decide_eq_true (fun k => h k.symm)]
    cases isInf a <;> cases isInf b <;> rfl
theorem mulS_comm (a b : Int) : mulS a b = mulS b a := by
  unfold mulS
  rw [nanF_comm, Bool.or_comm (isNan a), Nat.mul_comm (V (mag a)), show (sgn a != sgn b) = (sgn b != sgn a) by cases sgn a <;> cases sgn b <;> rfl]
  cases isInf a <;> cases isInf b <;> cases isZ a <;> cases isZ b <;> rfl
theorem flip_mag (b : Int) (h0 : 0 ≤ b) (h1 : b < 18446744073709551616) : mag (wFlip b) = mag b := by unfold mag wFlip; omega
theorem flip_sgn (b : Int) (h0 : 0 ≤ b) (h1 : b < 18446744073709551616) : sgn (wFlip b) = !sgn b := by
  unfold sgn wFlip
  rw [Bool.eq_iff_iff]
  simp only [Bool.not_eq_true', decide_eq_true_eq, decide_eq_false_iff_not]
  omega
theorem flip_sv (b : Int) (h0 : 0 ≤ b) (h1 : b < 18446744073709551616) : sv (wFlip b) = - sv b := by
  unfold sv
  rw [flip_mag b h0 h1, flip_sgn b h0 h1]
  cases sgn b <;> simp
theorem sgn_mag (n : Bool) (N : Nat) (h : N < 9223372036854775808) : mag (sgnB n + (N : Int)) = N ∧ sgn (sgnB n + (N : Int)) = n ∧ 0 ≤ sgnB n + (N : Int) ∧ sgnB n + (N : Int) < 18446744073709551616 := by
  unfold mag sgn sgnB
  cases n
  · refine ⟨?_, decide_eq_false ?_, ?_, ?_⟩ <;> simp <;> omega
  · refine ⟨?_, decide_eq_true ?_, ?_, ?_⟩ <;> simp <;> omega
theorem whole (b : Int) (h0 : 0 ≤ b) (h1 : b < 18446744073709551616) : b = sgnB (sgn b) + (mag b : Int) := whole_sign b h0 h1
theorem sv_abs (b : Int) : (sv b).natAbs = V (mag b) := by unfold sv; cases sgn b <;> simp
theorem fin_facts (b : Int) (h : mag b < 9218868437227405312) : isNan b = false ∧ isInf b = false := by
  unfold isNan isInf
  exact ⟨decide_eq_false (by omega), decide_eq_false (by omega)⟩
theorem addS_fin (a b : Int) (ha : mag a < 9218868437227405312) (hb : mag b < 9218868437227405312) : addS a b = if isZ a && isZ b then (sgnB (sgn a && sgn b), 0) else rndS (sv a + sv b) := by
  obtain ⟨n1, i1⟩ := fin_facts a ha
  obtain ⟨n2, i2⟩ := fin_facts b hb
  unfold addS
  rw [n1, n2, i1, i2, if_neg (by simp), if_neg (by simp), if_neg (by simp), if_neg (by simp)]
theorem mulS_fin (a b : Int) (ha : mag a < 9218868437227405312) (hb : mag b < 9218868437227405312) : mulS a b = (sgnB (sgn a != sgn b) + ((numP (V (mag a) * V (mag b)) (-2148) : Nat) : Int), ((flagP (V (mag a) * V (mag b)) (-2148) : Nat) : Int)) := by
  obtain ⟨n1, i1⟩ := fin_facts a ha
  obtain ⟨n2, i2⟩ := fin_facts b hb
  unfold mulS
  rw [n1, n2, i1, i2, if_neg (by simp), if_neg (by simp), if_neg (by simp)]
theorem z_iff (b : Int) : isZ b = true ↔ mag b = 0 := by unfold isZ; rw [decide_eq_true_eq]
theorem z_not (b : Int) : isZ b = false ↔ mag b ≠ 0 := by unfold isZ; rw [decide_eq_false_iff_not]
theorem sv_zero (b : Int) (h : mag b = 0) : sv b = 0 := by unfold sv; rw [h, V_zero]; split <;> rfl
theorem rnd_zero : rndS 0 = (0, 0) := by
  unfold rndS
  rw [Int.natAbs_zero]
  unfold numP flagP patP
  simp [sgnB]
/-- A number is rounded to itself. -/
theorem rnd_self (a : Int) (h0 : 0 ≤ a) (h1 : a < 18446744073709551616) (hf : mag a < 9218868437227405312) (hz : mag a ≠ 0) : rndS (sv a) = (a, 0) := by
  have hp := V_pos (mag a) (by omega)
  unfold rndS
  rw [sv_abs, (num_V _ hf).1, (num_V _ hf).2]
  have hs : decide (sv a < 0) = sgn a := by
    unfold sv
    cases sgn a
    · exact decide_eq_false (by simp)
    · exact decide_eq_true (by simp; omega)
  rw [hs, ← whole a h0 h1]
  rfl
theorem add_flip (a : Int) (h0 : 0 ≤ a) (h1 : a < 18446744073709551616) (hf : mag a < 9218868437227405312) : (addS a (wFlip a)).1 = 0 := by
  rw [addS_fin a _ hf (by rw [flip_mag a h0 h1]; exact hf), flip_sv a h0 h1, flip_sgn a h0 h1, Int.add_right_neg, rnd_zero]
  split
  · cases sgn a <;> rfl
  · rfl
theorem z_whole (a : Int) (h0 : 0 ≤ a) (h1 : a < 18446744073709551616) (h : mag a = 0) : sgnB (sgn a) = a := by
  have := whole a h0 h1
  rw [h] at this
  omega
theorem add_minus0 (a : Int) (h0 : 0 ≤ a) (h1 : a < 18446744073709551616) (hf : mag a < 9218868437227405312) : addS a 9223372036854775808 = (a, 0) := by
  have m0 : mag 9223372036854775808 = 0 := by decide +kernel
  rw [addS_fin a _ hf (by rw [m0]; decide), show isZ 9223372036854775808 = true by decide +kernel, show sgn 9223372036854775808 = true by decide +kernel, sv_zero _ m0, Int.add_zero, Bool.and_true, Bool.and_true]
  by_cases hz : mag a = 0
  · rw [if_pos ((z_iff a).2 hz), z_whole a h0 h1 hz]
  · rw [(z_not a).2 hz, if_neg (by simp), rnd_self a h0 h1 hf hz]
theorem mag_one : mag 4607182418800017408 = 4607182418800017408 := by decide +kernel
theorem one_pow (x e : Nat) (E : Int) (k : Nat) (hk : k = 52 + e) : numP (x * (4503599627370496 * 2 ^ e)) E = numP x (E + k) ∧ flagP (x * (4503599627370496 * 2 ^ e)) E = flagP x (E + k) := by
  rw [show 4503599627370496 * 2 ^ e = 2 ^ k by rw [hk, Nat.pow_add], numP_scale, flagP_scale]
  exact ⟨rfl, rfl⟩
theorem mul_one' (a : Int) (h0 : 0 ≤ a) (h1 : a < 18446744073709551616) (hf : mag a < 9218868437227405312) : mulS a 4607182418800017408 = (a, 0) := by
  rw [mulS_fin a _ hf (by rw [mag_one]; decide), mag_one, V_one, (one_pow _ 1022 _ 1074 rfl).1, (one_pow _ 1022 _ 1074 rfl).2, show (-2148 : Int) + ((1074 : Nat) : Int) = -1074 by decide, (num_V _ hf).1, (num_V _ hf).2, show sgn 4607182418800017408 = false by decide +kernel, Bool.bne_false, ← whole a h0 h1]
  rfl
theorem quo_pow (x k : Nat) (hk : k ≤ jj) : quoN x (2 ^ k) = numP x (-(k : Int)) ∧ quoF x (2 ^ k) = flagP x (-(k : Int)) := by
  obtain ⟨m, hm⟩ : ∃ m, jj = m + k := ⟨jj - k, by omega⟩
  have e : x * 2 ^ jj = x * 2 ^ m * 2 ^ k := by rw [hm, Nat.pow_add, Nat.mul_assoc]
  unfold quoN quoF
  rw [e, Nat.mul_div_cancel _ (Nat.two_pow_pos k), Nat.mul_mod_left, show decide ((0 : Nat) ≠ 0) = false from rfl, numM_false, flagM_false, numP_scale, flagP_scale, show -(jj : Int) + (m : Int) = -(k : Int) by omega]
  exact ⟨rfl, rfl⟩
theorem one_is (e k : Nat) (hk : k = 52 + e) : 4503599627370496 * 2 ^ e = 2 ^ k := by rw [hk, Nat.pow_add]
theorem div_one' (a : Int) (h0 : 0 ≤ a) (h1 : a < 18446744073709551616) (hf : mag a < 9218868437227405312) : divS a 4607182418800017408 = (a, 0) := by
  obtain ⟨n1, i1⟩ := fin_facts a hf
  have hj : 1074 ≤ jj := by decide +kernel
  unfold divS
  rw [n1, i1, show isNan 4607182418800017408 = false by decide +kernel, show isInf 4607182418800017408 = false by decide +kernel, show isZ 4607182418800017408 = false by decide +kernel, show sgn 4607182418800017408 = false by decide +kernel, Bool.bne_false, mag_one, V_one, one_is 1022 1074 rfl, (quo_pow _ _ hj).1, (quo_pow _ _ hj).2, show -((1074 : Nat) : Int) = -1074 by decide, (num_V _ hf).1, (num_V _ hf).2, ← whole a h0 h1]
  by_cases hz : mag a = 0
  · rw [(z_iff a).2 hz, z_whole a h0 h1 hz]; rfl
  · rw [(z_not a).2 hz]; rfl
theorem mul_flip (a b : Int) (g0 : 0 ≤ b) (g1 : b < 18446744073709551616) (ha : mag a < 9218868437227405312) (hb : mag b < 9218868437227405312) : (mulS a (wFlip b)).1 = wFlip (mulS a b).1 := by
  rw [mulS_fin a _ ha (by rw [flip_mag b g0 g1]; exact hb), mulS_fin a b ha hb, flip_mag b g0 g1, flip_sgn b g0 g1]
  have hn := numP_le (V (mag a) * V (mag b)) (-2148)
  generalize numP (V (mag a) * V (mag b)) (-2148) = N at *
  unfold wFlip sgnB
  simp only
  cases sgn a <;> cases sgn b <;> simp <;> omega
/-- What is rounded exactly, stands for just that. -/
theorem rnd_exact (s : Int) (p : Nat) (hp : p < 9218868437227405312) (hl : lostP s.natAbs (-1074) = false) (hs : s.natAbs ≤ V p) :
    (rndS s).2 = 0 ∧ mag (rndS s).1 < 9218868437227405312 ∧ sv (rndS s).1 = s ∧ 0 ≤ (rndS s).1 ∧ (rndS s).1 < 18446744073709551616 := by
  have hx := V_exact s.natAbs hl
  have hpat : patP s.natAbs (-1074) ≤ p := (V_le_iff _ _).1 (by rw [hx]; exact hs)
  have hnum : numP s.natAbs (-1074) = patP s.natAbs (-1074) := by unfold numP; omega
  obtain ⟨m1, m2, m3, m4⟩ := sgn_mag (decide (s < 0)) (numP s.natAbs (-1074)) (by omega)
  unfold rndS
  simp only
  refine ⟨?_, by rw [m1]; omega, ?_, m3, m4⟩
  · unfold flagP
    rw [if_neg (by omega), hl, if_neg (by simp)]
    rfl
  · unfold sv
    rw [m1, m2, hnum, hx]
    by_cases h : s < 0
    · rw [decide_eq_true h, if_pos rfl]; omega
    · rw [decide_eq_false h, if_neg (by simp)]; omega
/-- The order of patterns by what they stand for. -/
def keyS (b : Int) : Int := if sgn b then -(mag b : Int) else (mag b : Int)
theorem key_sv (a b : Int) (h : keyS a ≤ keyS b) : sv a ≤ sv b := by
  unfold keyS at h
  unfold sv
  cases ha : sgn a <;> cases hb : sgn b <;> rw [ha, hb] at h <;> simp at h ⊢
  · exact V_mono _ _ (by omega)
  · have h1 : mag a = 0 := by omega
    have h2 : mag b = 0 := by omega
    rw [h1, h2, V_zero]; omega
  · exact V_mono _ _ (by omega)
theorem key_rnd (s : Int) : keyS (rndS s).1 = keyR s (-1074) := by
  have hn := numP_le s.natAbs (-1074)
  obtain ⟨m1, m2, m3, m4⟩ := sgn_mag (decide (s < 0)) (numP s.natAbs (-1074)) (by omega)
  unfold rndS keyS keyR
  simp only
  rw [m1, m2]
  by_cases h : s < 0
  · rw [decide_eq_true h, if_pos rfl, if_pos h]
  · rw [decide_eq_false h, if_neg (by simp), if_neg h]
theorem numP_zero (e : Int) : numP 0 e = 0 := by unfold numP patP; rw [if_pos rfl]; rfl
theorem key_add (a c : Int) (ha : mag a < 9218868437227405312) (hc : mag c < 9218868437227405312) : keyS (addS a c).1 = keyR (sv a + sv c) (-1074) := by
  rw [addS_fin a c ha hc]
  by_cases h : (isZ a && isZ c) = true
  · rw [if_pos h]
    rw [Bool.and_eq_true, z_iff, z_iff] at h
    rw [sv_zero a h.1, sv_zero c h.2]
    obtain ⟨m1, m2, m3, m4⟩ := sgn_mag (sgn a && sgn c) 0 (by decide)
    rw [show sgnB (sgn a && sgn c) + ((0 : Nat) : Int) = sgnB (sgn a && sgn c) by simp] at m1
    unfold keyR keyS
    simp only [Int.add_zero, Int.natAbs_zero, numP_zero]
    rw [m1]
    split <;> simp
  · rw [if_neg h, key_rnd]
theorem key_mul (a c : Int) (hs : sgn c = false) (ha : mag a < 9218868437227405312) (hc : mag c < 9218868437227405312) : keyS (mulS a c).1 = keyR (sv a * (V (mag c) : Int)) (-2148) := by
  rw [mulS_fin a c ha hc, hs, Bool.bne_false]
  have hn := numP_le (V (mag a) * V (mag c)) (-2148)
  obtain ⟨m1, m2, m3, m4⟩ := sgn_mag (sgn a) (numP (V (mag a) * V (mag c)) (-2148)) (by omega)
  unfold keyS keyR
  simp only
  rw [m1, m2, Int.natAbs_mul, sv_abs, Int.natAbs_natCast]
  by_cases hz : V (mag a) * V (mag c) = 0
  · rw [hz, numP_zero]
    split <;> split <;> simp
  · have h1 : 0 < V (mag a) := Nat.pos_of_ne_zero (fun k => hz (by rw [k, Nat.zero_mul]))
    have h2 : 0 < V (mag c) := Nat.pos_of_ne_zero (fun k => hz (by rw [k, Nat.mul_zero]))
    have hc2 : (0 : Int) < (V (mag c) : Int) := by omega
    unfold sv
    cases sgn a
    · simp only [Bool.false_eq_true, if_false]
      rw [if_neg (by have := Int.mul_pos (show (0 : Int) < (V (mag a) : Int) by omega) hc2; omega)]
    · simp only [if_true]
      rw [if_pos (by have := Int.mul_pos (show (0 : Int) < (V (mag a) : Int) by omega) hc2; rw [Int.neg_mul]; omega)]
theorem order_add (a b c : Int) (h : keyS a ≤ keyS b) (ha : mag a < 9218868437227405312) (hb : mag b < 9218868437227405312) (hc : mag c < 9218868437227405312) : keyS (addS a c).1 ≤ keyS (addS b c).1 := by
  rw [key_add a c ha hc, key_add b c hb hc]
  exact keyR_mono _ _ _ (by have := key_sv a b h; omega)
theorem order_mul (a b c : Int) (h : keyS a ≤ keyS b) (hs : sgn c = false) (ha : mag a < 9218868437227405312) (hb : mag b < 9218868437227405312) (hc : mag c < 9218868437227405312) : keyS (mulS a c).1 ≤ keyS (mulS b c).1 := by
  rw [key_mul a c hs ha hc, key_mul b c hs hb hc]
  exact keyR_mono _ _ _ (Int.mul_le_mul_of_nonneg_right (key_sv a b h) (by omega))
/-- A difference of numbers of which one is at most twice the other is exact; added again it is the first. -/
theorem exact_sub (a b : Int) (h0 : 0 ≤ a) (h1 : a < 18446744073709551616) (g0 : 0 ≤ b) (g1 : b < 18446744073709551616) (ha : mag a < 9218868437227405312) (hb : mag b < 9218868437227405312) (hs : sgn a = sgn b) (hle : mag b ≤ mag a)
    (hf : (addS b b).2 = 0) (h2 : mag a ≤ mag (addS b b).1) :
    (addS a (wFlip b)).2 = 0 ∧ (addS (addS a (wFlip b)).1 b).2 = 0 ∧ 0 ≤ (addS a (wFlip b)).1 ∧ (addS a (wFlip b)).1 < 18446744073709551616 ∧ ((addS (addS a (wFlip b)).1 b).1 = a ∨ (mag (addS (addS a (wFlip b)).1 b).1 = 0 ∧ mag a = 0)) := by
  have hfb : mag (wFlip b) < 9218868437227405312 := by rw [flip_mag b g0 g1]; exact hb
  by_cases hz : mag b = 0
  · have hz2 : mag a = 0 := by
      rw [addS_fin b b hb hb, if_pos (by rw [Bool.and_eq_true, z_iff]; exact ⟨hz, hz⟩)] at h2
      have : mag (sgnB (sgn b && sgn b)) = 0 := by cases sgn b <;> decide +kernel
      simp only at h2
      omega
    have e1 : addS a (wFlip b) = (0, 0) := by
      rw [addS_fin a _ ha hfb, if_pos (by rw [Bool.and_eq_true, z_iff, z_iff, flip_mag b g0 g1]; exact ⟨hz2, hz⟩), flip_sgn b g0 g1, hs]
      cases sgn b <;> rfl
    have m0 : mag 0 = 0 := by decide +kernel
    have e2 : addS 0 b = (0, 0) := by
      rw [addS_fin 0 b (by rw [m0]; decide) hb, if_pos (by rw [Bool.and_eq_true, z_iff, z_iff]; exact ⟨m0, hz⟩), show sgn 0 = false by decide +kernel]
      rfl
    rw [e1]
    simp only
    rw [e2]
    refine ⟨?_, ?_, ?_, ?_, Or.inr ⟨m0, hz2⟩⟩
    all_goals first | trivial | decide
  · have hza : mag a ≠ 0 := by omega
    have hVb := V_pos (mag b) (by omega)
    -- twice the lesser, exactly
    have hdbl : V (mag a) ≤ 2 * V (mag b) := by
      rw [addS_fin b b hb hb, (z_not b).2 hz, if_neg (by simp)] at hf h2
      have hsum := rnd_same b b rfl hVb
      rw [hsum] at hf h2
      simp only at hf h2
      have hfl : flagP (V (mag b) + V (mag b)) (-1074) = 0 := by omega
      have hpl : patP (V (mag b) + V (mag b)) (-1074) < 9218868437227405312 := by
        rcases Nat.lt_or_ge (patP (V (mag b) + V (mag b)) (-1074)) 9218868437227405312 with g | g
        · exact g
        · unfold flagP at hfl; rw [if_pos g] at hfl; cases hfl
      have hlo : lostP (V (mag b) + V (mag b)) (-1074) = false := by
        unfold flagP at hfl
        rw [if_neg (by omega)] at hfl
        by_cases hl : lostP (V (mag b) + V (mag b)) (-1074) = true
        · rw [if_pos ⟨by omega, hl⟩] at hfl
          split at hfl <;> cases hfl
        · simpa using hl
      have hx := V_exact _ hlo
      rw [(sgn_mag (sgn b) (numP (V (mag b) + V (mag b)) (-1074)) (by have := numP_le (V (mag b) + V (mag b)) (-1074); omega)).1] at h2
      have : numP (V (mag b) + V (mag b)) (-1074) = patP (V (mag b) + V (mag b)) (-1074) := by unfold numP; omega
      rw [this] at h2
      have := V_mono _ _ h2
      omega
    have hlo := sterbenz (mag a) (mag b) hle hdbl
    have hVle := V_mono _ _ hle
    have hd : (sv a + sv (wFlip b)).natAbs = V (mag a) - V (mag b) := by
      rw [flip_sv b g0 g1]
      unfold sv
      rw [hs]
      cases sgn b <;> simp <;> omega
    have e1 : addS a (wFlip b) = rndS (sv a + sv (wFlip b)) := by
      rw [addS_fin a _ ha hfb, (z_not a).2 hza, if_neg (by simp)]
    obtain ⟨r1, r2, r3, r4, r5⟩ := rnd_exact (sv a + sv (wFlip b)) (mag a) ha (by rw [hd]; exact hlo) (by rw [hd]; omega)
    rw [e1]
    have e2 : addS (rndS (sv a + sv (wFlip b))).1 b = (a, 0) := by
      rw [addS_fin _ b r2 hb, (z_not b).2 hz, Bool.and_false, if_neg (by simp), r3, flip_sv b g0 g1, show sv a + -sv b + sv b = sv a by omega, rnd_self a h0 h1 ha hza]
    rw [e2]
    exact ⟨r1, rfl, r4, r5, Or.inl rfl⟩
end Go.Proofs.Ytokgfeeaoioegaa
