/-
  The mathematics of Fma's cases: the document's product and sum of three patterns by layer 4's Mul and Add, or by terms.
-/
import Derived.Test.YteohkpiecidicaaMoreM
import Derived.WalkKit
namespace Go.Proofs.Yteohkpiecidicaa
open Go.RowKit
set_option linter.unusedVariables false

theorem or0l_all : ∀ j : Fin 256, bits .or .u8 0 ((j.1 : Nat) : Int) = ((j.1 : Nat) : Int) := by decide +kernel
theorem or0l (F : Int) (h0 : 0 ≤ F) (h1 : F < 256) : bits .or .u8 0 F = F := by
  have := or0l_all ⟨F.toNat, by omega⟩
  simp only at this
  rw [Int.toNat_of_nonneg h0] at this
  exact this
theorem quiet_nan : isNan 9221120237041090560 = true := by decide +kernel
theorem quiet_sigs : sigs 9221120237041090560 = false := by decide +kernel
theorem sigs_nan (b : Int) (h : isNan b = false) : sigs b = false := by
  unfold sigs
  unfold isNan mag at h
  rw [decide_eq_false_iff_not] at h ⊢
  rintro ⟨h1, _⟩
  have := (wKind_nan b).1 h1
  omega
theorem nan_not (b : Int) (h : isNan b = true) : isInf b = false ∧ isZ b = false := by
  unfold isNan at h
  unfold isInf isZ
  rw [decide_eq_true_eq] at h
  exact ⟨decide_eq_false (by omega), decide_eq_false (by omega)⟩
theorem sgn_inf (n : Bool) : isNan (sgnB n + 9218868437227405312) = false ∧ isInf (sgnB n + 9218868437227405312) = true := by cases n <;> decide +kernel
theorem not_fin (a : Int) (h : ¬ mag a < 9218868437227405312) (hn : isNan a = false) : isInf a = true := by
  unfold isNan at hn
  unfold isInf
  rw [decide_eq_false_iff_not] at hn
  rw [decide_eq_true_eq]
  omega
theorem fma_wild (a b c : Int) (k0 : 0 ≤ c) (k1 : c < 18446744073709551616) (h : ¬ mag a < 9218868437227405312 ∨ ¬ mag b < 9218868437227405312) :
    fmaS a b c = ((addS (mulS a b).1 c).1, bits .or .u8 (mulS a b).2 (addS (mulS a b).1 c).2) := by
  have hQ : ∀ F : Int, mulS a b = (9221120237041090560, F) → ((addS (mulS a b).1 c).1, bits .or .u8 (mulS a b).2 (addS (mulS a b).1 c).2) = (9221120237041090560, bits .or .u8 F (nanF 9221120237041090560 c)) := by
    intro F hF
    rw [hF]
    simp only
    unfold addS
    rw [quiet_nan, Bool.true_or, if_pos rfl]
  by_cases hn : (isNan a || isNan b) = true
  · have hm : mulS a b = (9221120237041090560, nanF a b) := by unfold mulS; rw [if_pos hn]
    rw [hQ _ hm]
    have hbad : ((isInf a && isZ b) || (isZ a && isInf b)) = false := by
      rw [Bool.or_eq_true] at hn
      rcases hn with hn | hn
      · rw [(nan_not a hn).1, (nan_not a hn).2]; rfl
      · rw [(nan_not b hn).1, (nan_not b hn).2, Bool.and_false, Bool.and_false]; rfl
    unfold fmaS
    rw [hbad, if_neg (by simp), if_pos (by rw [hn]; rfl)]
    unfold nanF3 nanF
    rw [quiet_sigs]
    congr 1
    cases sigs a <;> cases sigs b <;> cases sigs c <;> decide
  · have hna : isNan a = false := by revert hn; cases isNan a <;> simp
    have hnb : isNan b = false := by revert hn; cases isNan b <;> simp
    by_cases hbad : ((isInf a && isZ b) || (isZ a && isInf b)) = true
    · have hm : mulS a b = (9221120237041090560, 16) := by unfold mulS; rw [if_neg hn, if_pos hbad]
      rw [hQ _ hm]
      unfold fmaS
      rw [if_pos hbad]
      unfold nanF
      rw [quiet_sigs]
      congr 1
      cases sigs c <;> decide
    · have hi : (isInf a || isInf b) = true := by
        rcases h with h | h
        · rw [not_fin a h hna]; rfl
        · rw [not_fin b h hnb, Bool.or_true]
      have hm : mulS a b = (sgnB (sgn a != sgn b) + 9218868437227405312, 0) := by unfold mulS; rw [if_neg hn, if_neg hbad, if_pos hi]
      rw [hm]
      simp only
      have hs := sgnB_le (sgn a != sgn b)
      have bd := addS_bd (sgnB (sgn a != sgn b) + 9218868437227405312) c (by omega) (by omega) k0 k1
      rw [or0l _ bd.2.2.1 (by omega)]
      unfold fmaS
      rw [if_neg hbad, hna, hnb]
      obtain ⟨p1, p2⟩ := sgn_inf (sgn a != sgn b)
      cases hc : isNan c
      · rw [if_neg (by simp), if_pos hi]
      · rw [if_pos (by simp)]
        unfold addS
        rw [p1, hc, Bool.or_true, if_pos rfl]
        unfold nanF3 nanF
        rw [sigs_nan a hna, sigs_nan b hnb, sigs_nan _ p1]
        simp
theorem bad_fin (a b : Int) (ha : mag a < 9218868437227405312) (hb : mag b < 9218868437227405312) : ((isInf a && isZ b) || (isZ a && isInf b)) = false := by
  rw [(fin_facts a ha).2, (fin_facts b hb).2, Bool.false_and, Bool.and_false]; rfl
theorem fma_c (a b c : Int) (k0 : 0 ≤ c) (k1 : c < 18446744073709551616) (ha : mag a < 9218868437227405312) (hb : mag b < 9218868437227405312) (hc : ¬ mag c < 9218868437227405312) : fmaS a b c = addS c c := by
  unfold fmaS addS
  rw [bad_fin a b ha hb, if_neg (by simp), (fin_facts a ha).1, (fin_facts b hb).1, (fin_facts a ha).2, (fin_facts b hb).2, Bool.or_self, Bool.or_self]
  cases hn : isNan c
  · rw [if_neg (by simp), if_neg (by simp), not_fin c hc hn, if_pos rfl, if_neg (by simp), if_neg (by simp), if_pos rfl]
  · rw [if_pos (by simp), if_pos rfl]
    unfold nanF3 nanF
    rw [sigs_nan a (fin_facts a ha).1, sigs_nan b (fin_facts b hb).1]
    simp
theorem rnd2_c (c : Int) : rnd2 (sv c * ((2 ^ uu : Nat) : Int)) = rndS (sv c) := by
  have hp := Nat.two_pow_pos uu
  have hu := uu_is
  unfold rnd2 rndS
  rw [Int.natAbs_mul, Int.natAbs_natCast, numP_scale, flagP_scale, show (-2148 : Int) + (uu : Int) = -1074 by omega]
  generalize 2 ^ uu = q at *
  have e : decide (sv c * (q : Int) < 0) = decide (sv c < 0) := by
    rw [decide_eq_decide]
    constructor
    · intro h
      rcases Int.lt_or_le (sv c) 0 with g | g
      · exact g
      · have := Int.mul_nonneg g (show (0 : Int) ≤ (q : Int) by omega); omega
    · intro h
      exact Int.mul_neg_of_neg_of_pos h (by omega)
  rw [e]
theorem pv_zero (a b : Int) (h : mag a = 0 ∨ mag b = 0) : pv a b = 0 := by
  unfold pv
  rcases h with h | h <;> rw [h, V_zero] <;> simp
theorem fma_zero (a b c : Int) (k0 : 0 ≤ c) (k1 : c < 18446744073709551616) (ha : mag a < 9218868437227405312) (hb : mag b < 9218868437227405312) (hc : mag c < 9218868437227405312) (hz : mag a = 0 ∨ mag b = 0) :
    fmaS a b c = addS (mulS a b).1 c := by
  have hm : (mulS a b).1 = sgnB (sgn a != sgn b) := by
    rw [mulS_fin a b ha hb]
    have : V (mag a) * V (mag b) = 0 := by rcases hz with h | h <;> rw [h, V_zero] <;> simp
    rw [this, numP_zero]
    simp
  have hzz : (isZ a || isZ b) = true := by
    rcases hz with h | h
    · rw [(z_iff a).2 h]; rfl
    · rw [(z_iff b).2 h, Bool.or_true]
  rw [hm]
  unfold fmaS
  rw [bad_fin a b ha hb, if_neg (by simp), (fin_facts a ha).1, (fin_facts b hb).1, (fin_facts c hc).1, (fin_facts a ha).2, (fin_facts b hb).2, (fin_facts c hc).2, if_neg (by simp), if_neg (by simp), if_neg (by simp), hzz, Bool.true_and]
  cases hcz : isZ c
  · rw [if_neg (by simp), pv_zero a b hz, Int.zero_add, rnd2_c, rnd_self c k0 k1 hc ((z_not c).1 hcz)]
    obtain ⟨s1, s2, s3, s4⟩ := sgn_mag (sgn a != sgn b) 0 (by decide)
    rw [show sgnB (sgn a != sgn b) + ((0 : Nat) : Int) = sgnB (sgn a != sgn b) by simp] at s1 s2 s3 s4
    rw [addS_fin _ c (by omega) hc, hcz, Bool.and_false, if_neg (by simp), sv_zero _ s1, Int.zero_add, rnd_self c k0 k1 hc ((z_not c).1 hcz)]
  · rw [if_pos rfl]
theorem pv_abs (a b : Int) : (pv a b).natAbs = V (mag a) * V (mag b) := by
  unfold pv
  split
  · rw [Int.natAbs_neg, Int.natAbs_natCast]
  · rw [Int.natAbs_natCast]
theorem pv_neg (a b : Int) (ha : mag a ≠ 0) (hb : mag b ≠ 0) : decide (pv a b < 0) = (sgn a != sgn b) := by
  have hp : 0 < V (mag a) * V (mag b) := Nat.mul_pos (V_pos _ (by omega)) (V_pos _ (by omega))
  unfold pv
  generalize V (mag a) * V (mag b) = X at *
  cases (sgn a != sgn b)
  · exact decide_eq_false (by simp)
  · exact decide_eq_true (by simp; omega)
theorem fma_cz (a b c : Int) (ha : mag a < 9218868437227405312) (hb : mag b < 9218868437227405312) (hc : mag c = 0) (za : mag a ≠ 0) (zb : mag b ≠ 0) : fmaS a b c = mulS a b := by
  have hcf : mag c < 9218868437227405312 := by omega
  rw [mulS_fin a b ha hb]
  unfold fmaS
  rw [bad_fin a b ha hb, if_neg (by simp), (fin_facts a ha).1, (fin_facts b hb).1, (fin_facts c hcf).1, (fin_facts a ha).2, (fin_facts b hb).2, (fin_facts c hcf).2, if_neg (by simp), if_neg (by simp), if_neg (by simp), (z_not a).2 za, (z_not b).2 zb, if_neg (by simp), sv_zero c hc, Int.zero_mul, Int.add_zero]
  unfold rnd2
  rw [pv_abs, pv_neg a b za zb]
theorem fma_terms (a b c : Int) (ha : mag a < 9218868437227405312) (hb : mag b < 9218868437227405312) (hc : mag c < 9218868437227405312) (za : mag a ≠ 0) (zb : mag b ≠ 0) :
    fmaS a b c = rnd3 (pv a b * ((2 ^ 152 : Nat) : Int) + sv c * ((2 ^ uu : Nat) : Int) * ((2 ^ 152 : Nat) : Int)) := by
  rw [← Int.add_mul, rnd3_scale]
  unfold fmaS
  rw [bad_fin a b ha hb, if_neg (by simp), (fin_facts a ha).1, (fin_facts b hb).1, (fin_facts c hc).1, (fin_facts a ha).2, (fin_facts b hb).2, (fin_facts c hc).2, if_neg (by simp), if_neg (by simp), if_neg (by simp), (z_not a).2 za, (z_not b).2 zb, if_neg (by simp)]
end Go.Proofs.Yteohkpiecidicaa
