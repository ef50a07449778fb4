/-
  The nearest pattern to an exact sum and product, and what layer 4's sum and product are: the mathematics. No conditions.
-/
import Derived.Test.YtgpgmnmifhkmbaaNearC
import Derived.Test.YtgpgmnmifhkmbaaRndM
namespace Go.Proofs.Ytgpgmnmifhkmbaa
set_option linter.unusedVariables false

theorem rk_scale (K k : Nat) (s : Int) (E : Int) (hE : -(64 * (K : Int)) + k = E) : rk K (s * ((2 ^ k : Nat) : Int)) = (sgnB (decide (s < 0)) + ((numP s.natAbs E : Nat) : Int), ((flagP s.natAbs E : Nat) : Int)) := by
  have hp : (0 : Int) < ((2 ^ k : Nat) : Int) := by have := Nat.two_pow_pos k; omega
  have h1 : (s * ((2 ^ k : Nat) : Int)).natAbs = s.natAbs * 2 ^ k := by rw [Int.natAbs_mul, Int.natAbs_natCast]
  have h2 : decide (s * ((2 ^ k : Nat) : Int) < 0) = decide (s < 0) := by
    rw [Bool.eq_iff_iff, decide_eq_true_eq, decide_eq_true_eq]
    constructor
    · intro h
      rcases Int.lt_or_le s 0 with g | g
      · exact g
      · have := Int.mul_nonneg g (Int.le_of_lt hp); omega
    · intro h; exact Int.mul_neg_of_neg_of_pos h hp
  unfold rk
  rw [h1, h2, numP_scale, flagP_scale, hE]
theorem num_pos (x : Nat) (hx : 0 < x) : numP x (-1074) ≠ 0 := by
  have a := numP_mono 1 x (-1074) hx
  have b : numP 1 (-1074) = 1 := by decide +kernel
  omega
theorem flag_of_zero (x : Nat) (e : Int) (hx : 0 < x) (h : numP x e = 0) : flagP x e ≠ 0 := by
  have hp : patP x e = 0 := by unfold numP at h; omega
  have hl : lostP x e = true := by
    unfold patP at hp
    rw [if_neg (by omega)] at hp
    have hk : keptP x e = 0 := by omega
    unfold keptP rneI at hk
    unfold lostP lostI
    by_cases g : 0 < lastP x e - e
    · rw [if_pos g] at hk
      have a := rne_ge_div x (lastP x e - e).toNat
      have b : x / 2 ^ (lastP x e - e).toNat = 0 := by rw [hk] at a; exact Nat.le_zero.1 a
      have c := Nat.div_add_mod x (2 ^ (lastP x e - e).toNat)
      rw [b, Nat.mul_zero, Nat.zero_add] at c
      rw [decide_eq_true_eq]
      exact ⟨g, by omega⟩
    · rw [if_neg g] at hk
      have := Nat.mul_pos hx (Nat.two_pow_pos (-(lastP x e - e)).toNat)
      omega
  unfold flagP
  split
  · decide
  · rw [if_pos ⟨by omega, hl⟩]
    split <;> decide
theorem near_sum (a b : Int) (h0 : 0 ≤ a) (h1 : a < 18446744073709551616) (g0 : 0 ≤ b) (g1 : b < 18446744073709551616) (ha : mag a < 9218868437227405312) (hb : mag b < 9218868437227405312) :
    ((addS a b).1 = 9223372036854775808 ∧ (rk 17 (xv a + xv b)).1 = 0 ∨ (addS a b).1 ≠ 9223372036854775808 ∧ (rk 17 (xv a + xv b)).1 = (addS a b).1) ∧ (rk 17 (xv a + xv b)).2 = (addS a b).2 := by
  have ex : xv a + xv b = (sv a + sv b) * ((2 ^ 14 : Nat) : Int) := by
    unfold xv
    rw [if_pos ha, if_pos hb, show ((2 ^ 14 : Nat) : Int) = 16384 from rfl]
    omega
  have er : rk 17 (xv a + xv b) = rndS (sv a + sv b) := by
    rw [ex, rk_scale 17 14 (sv a + sv b) (-1074) (by decide)]
    rfl
  rw [er, addS_fin a b ha hb]
  by_cases hz : (isZ a && isZ b) = true
  · rw [if_pos hz]
    rw [Bool.and_eq_true] at hz
    have za := (z_iff a).1 hz.1
    have zb := (z_iff b).1 hz.2
    rw [sv_zero a za, sv_zero b zb, Int.add_zero, rnd_zero]
    refine ⟨?_, rfl⟩
    cases hs : (sgn a && sgn b)
    · right; exact ⟨by decide, rfl⟩
    · left; exact ⟨rfl, rfl⟩
  · rw [if_neg hz]
    refine ⟨.inr ⟨?_, rfl⟩, rfl⟩
    unfold rndS
    have hn := numP_le (sv a + sv b).natAbs (-1074)
    by_cases hs : sv a + sv b < 0
    · have hp := num_pos (sv a + sv b).natAbs (by omega)
      rw [decide_eq_true hs]
      unfold sgnB
      simp only [if_true]
      omega
    · rw [decide_eq_false hs]
      unfold sgnB
      simp only [Bool.false_eq_true, if_false]
      omega
theorem near_prod (a b : Int) (ha : mag a < 9218868437227405312) (hb : mag b < 9218868437227405312) :
    (((mulS a b).1 = 9223372036854775808 ∧ (mulS a b).2 = 0 ∧ (rk 34 (xv a * xv b)).1 = 0) ∨ ((mulS a b).1 = 9223372036854775808 ∧ (mulS a b).2 ≠ 0 ∧ (rk 34 (xv a * xv b)).1 = (mulS a b).1) ∨ ((mulS a b).1 ≠ 9223372036854775808 ∧ (rk 34 (xv a * xv b)).1 = (mulS a b).1)) ∧ (rk 34 (xv a * xv b)).2 = (mulS a b).2 := by
  have ex : xv a * xv b = (sv a * sv b) * ((2 ^ 28 : Nat) : Int) := by
    unfold xv
    rw [if_pos ha, if_pos hb, show ((2 ^ 28 : Nat) : Int) = 16384 * 16384 from rfl]
    grind
  have ab : (sv a * sv b).natAbs = V (mag a) * V (mag b) := by rw [Int.natAbs_mul, sv_abs, sv_abs]
  rw [ex, rk_scale 34 28 (sv a * sv b) (-2148) (by decide), mulS_fin a b ha hb, ab]
  refine ⟨?_, rfl⟩
  by_cases hz : V (mag a) * V (mag b) = 0
  · have e0 : decide (sv a * sv b < 0) = false := by
      rw [decide_eq_false_iff_not]
      have : (sv a * sv b).natAbs = 0 := by rw [ab, hz]
      omega
    rw [hz, e0, numP_zero, flagP_zero]
    cases (sgn a != sgn b)
    · right; right; exact ⟨by decide, rfl⟩
    · left; exact ⟨rfl, rfl, rfl⟩
  · have hpos : 0 < V (mag a) * V (mag b) := by omega
    have hs : decide (sv a * sv b < 0) = (sgn a != sgn b) := by
      rw [Bool.eq_iff_iff, decide_eq_true_eq]
      have hva : 0 < ((V (mag a) : Nat) : Int) := by
        rcases Nat.eq_zero_or_pos (V (mag a)) with h | h
        · rw [h, Nat.zero_mul] at hpos; omega
        · omega
      have hvb : 0 < ((V (mag b) : Nat) : Int) := by
        rcases Nat.eq_zero_or_pos (V (mag b)) with h | h
        · rw [h, Nat.mul_zero] at hpos; omega
        · omega
      have hm := Int.mul_pos hva hvb
      unfold sv
      generalize ((V (mag a) : Nat) : Int) = A at *
      generalize ((V (mag b) : Nat) : Int) = C at *
      cases sgn a <;> cases sgn b <;> simp [Int.neg_mul, Int.mul_neg] <;> omega
    rw [hs]
    by_cases hq : sgnB (sgn a != sgn b) + ((numP (V (mag a) * V (mag b)) (-2148) : Nat) : Int) = 9223372036854775808
    · right; left
      refine ⟨hq, ?_, rfl⟩
      have hn := numP_le (V (mag a) * V (mag b)) (-2148)
      have : numP (V (mag a) * V (mag b)) (-2148) = 0 := by
        cases h : (sgn a != sgn b) <;> rw [h] at hq <;> unfold sgnB at hq <;> simp at hq <;> omega
      have := flag_of_zero _ _ hpos this
      show ((flagP _ _ : Nat) : Int) ≠ 0
      omega
    · right; right
      exact ⟨hq, rfl⟩
end Go.Proofs.Ytgpgmnmifhkmbaa
