/-
  Numbers times a power of two: where nothing is too great or too small nothing is lost; the power beneath the greatest of some numbers; their root of a sum of squares (P10.3, VecPower). Conditions: finite numbers.
-/
import Derived.Test.YtokgfeeaoioegaaNormN
import Derived.Test.YtokgfeeaoioegaaRootM
namespace Go.Proofs.Ytokgfeeaoioegaa
set_option linter.unusedVariables false
set_option linter.unusedSimpArgs false

/-- A pattern's number times a power of two is lost only where it is small. -/
theorem flag_V (p : Nat) (E : Int) (h : flagP (V p) E ≤ 1) : flagP (V p) E = 0 := by
  obtain ⟨k, d, _, hV, hk, _⟩ := V_form p
  by_cases hz : V p = 0
  · rw [hz]
    unfold flagP patP
    rw [if_pos rfl, if_neg (by decide), if_neg (fun h => h.1 rfl)]
  · have hk0 : 0 < k := by
      refine Nat.pos_of_ne_zero fun g => hz ?_
      rw [hV, g, Nat.zero_mul]
    unfold flagP at h ⊢
    split at h
    · omega
    · rename_i h1
      rw [if_neg h1]
      split at h
      · rename_i h2
        exfalso
        split at h
        · omega
        · rename_i h3
          have h4 := h2.2
          rw [hV, lostP_scale k E d hk0] at h4
          rw [hV, smallP_scale k E d hk0] at h3
          unfold lostP lostI at h4
          unfold smallP at h3
          rw [decide_eq_true_eq] at h4
          have hlen := (bl_length_le k 53).2 (Nat.lt_of_lt_of_le hk (by decide))
          unfold lastP at h4
          have h5 := h4.1
          simp at h3
          omega
      · rename_i h2
        rw [if_neg h2]
/-- Scaled, neither too great nor too small: nothing is lost. -/
theorem scale_flag (a n : Int) (ha : mag a < 9218868437227405312) (h : (scaleS a n).2 ≤ 1) : (scaleS a n).2 = 0 := by
  obtain ⟨f1, f2⟩ := fin_facts a ha
  by_cases hz : mag a = 0
  · have e1 : scaleS a n = (a, 0) := by
      unfold scaleS
      rw [f1, f2, if_neg (by decide), if_pos (by rw [Bool.or_eq_true]; exact .inr ((z_iff a).2 hz))]
    rw [e1]
  · have e1 : scaleS a n = (sgnB (sgn a) + ((numP (V (mag a)) (n - 1074) : Nat) : Int), ((flagP (V (mag a)) (n - 1074) : Nat) : Int)) := by
      unfold scaleS
      rw [f1, f2, if_neg (by decide), if_neg (by rw [Bool.or_eq_true, z_iff]; rintro (h | h); exact absurd h (by decide); exact hz h)]
    rw [e1] at h ⊢
    have h' : ((flagP (V (mag a)) (n - 1074) : Nat) : Int) ≤ 1 := h
    have := flag_V (mag a) (n - 1074) (by omega)
    show ((flagP _ _ : Nat) : Int) = 0
    rw [this]
    rfl
def ii : Nat := 2046
theorem ii_is : (ii : Int) = 2046 := rfl
theorem V_inf : V 9218868437227405312 = 2 ^ (52 + ii) := by
  have := V_split 4503599627370496 ii (by decide) (.inl (by decide))
  rw [show 4503599627370496 + ii * 4503599627370496 = 9218868437227405312 from rfl] at this
  rw [this, Nat.pow_add]
/-- The greatest of n numbers is from 2^e on, and beneath 2^(e + 1). -/
def IsPow (X : Nat → Int) (n : Nat) (e : Int) : Prop := -1074 ≤ e ∧ e ≤ 1023 ∧ (∀ i, i < n → V (mag (X i)) < 2 ^ (e + 1075).toNat) ∧ ∃ i, i < n ∧ 2 ^ (e + 1074).toNat ≤ V (mag (X i))
theorem IsPow.only {X : Nat → Int} {n : Nat} {e f : Int} (h : IsPow X n e) (g : IsPow X n f) : e = f := by
  obtain ⟨h1, h2, h3, i, hi, h4⟩ := h
  obtain ⟨g1, g2, g3, j, hj, g4⟩ := g
  have a1 := Nat.lt_of_le_of_lt h4 (g3 i hi)
  have a2 := Nat.lt_of_le_of_lt g4 (h3 j hj)
  have b1 := (Nat.pow_lt_pow_iff_right (by decide : 1 < 2)).1 a1
  have b2 := (Nat.pow_lt_pow_iff_right (by decide : 1 < 2)).1 a2
  omega
/-- What is scaled and loses nothing stands for the same number, times the power. -/
theorem scale_V (a n : Int) (ha : mag a < 9218868437227405312) (h : (scaleS a n).2 = 0) : mag (scaleS a n).1 < 9218868437227405312 ∧ ∃ i j : Nat, V (mag (scaleS a n).1) * 2 ^ j = V (mag a) * 2 ^ i ∧ (i : Int) - j = n := by
  obtain ⟨f1, f2⟩ := fin_facts a ha
  by_cases hz : mag a = 0
  · have e1 : scaleS a n = (a, 0) := by
      unfold scaleS
      rw [f1, f2, if_neg (by decide), if_pos (by rw [Bool.or_eq_true]; exact .inr ((z_iff a).2 hz))]
    rw [e1]
    refine ⟨ha, ?_⟩
    show ∃ i j : Nat, V (mag a) * 2 ^ j = V (mag a) * 2 ^ i ∧ _
    rw [hz, V_zero]
    rcases Int.le_total 0 n with g | g
    · exact ⟨n.toNat, 0, by simp, by omega⟩
    · exact ⟨0, (-n).toNat, by simp, by omega⟩
  · have e1 : scaleS a n = (sgnB (sgn a) + ((numP (V (mag a)) (n - 1074) : Nat) : Int), ((flagP (V (mag a)) (n - 1074) : Nat) : Int)) := by
      unfold scaleS
      rw [f1, f2, if_neg (by decide), if_neg (by rw [Bool.or_eq_true, z_iff]; rintro (h | h); exact absurd h (by decide); exact hz h)]
    rw [e1] at h ⊢
    have h' : ((flagP (V (mag a)) (n - 1074) : Nat) : Int) = 0 := h
    obtain ⟨p1, p2⟩ := num_pat (V (mag a)) (n - 1074) (by omega)
    have hm : mag (sgnB (sgn a) + ((numP (V (mag a)) (n - 1074) : Nat) : Int)) = numP (V (mag a)) (n - 1074) := (sgn_mag _ _ (by omega)).1
    show mag (sgnB (sgn a) + ((numP (V (mag a)) (n - 1074) : Nat) : Int)) < _ ∧ ∃ i j : Nat, V (mag (sgnB (sgn a) + ((numP (V (mag a)) (n - 1074) : Nat) : Int))) * 2 ^ j = _ ∧ _
    rw [hm, p1]
    have hVp := V_pos (mag a) (by omega)
    have hl : lostP (V (mag a)) (n - 1074) = false := by
      cases hl : lostP (V (mag a)) (n - 1074) with
      | false => rfl
      | true =>
        exfalso
        unfold flagP at h'
        rw [if_neg (by omega), if_pos ⟨by omega, hl⟩] at h'
        split at h' <;> omega
    obtain ⟨i, j, t1, t2⟩ := told_any _ _ hVp hl
    exact ⟨p2, i, j, t1, by omega⟩
/-- The power beneath the greatest of numbers that were scaled. -/
theorem IsPow.scale {X : Nat → Int} {n : Nat} {e : Int} (h : IsPow X n e) (k : Int) (fx : ∀ i, i < n → mag (X i) < 9218868437227405312) (hf : ∀ i, i < n → (scaleS (X i) k).2 = 0) : IsPow (fun i => (scaleS (X i) k).1) n (e + k) := by
  obtain ⟨h1, h2, h3, i0, hi0, h4⟩ := h
  have key : ∀ i, i < n → V (mag (X i)) < 2 ^ (e + 1075).toNat → -1075 ≤ e + k → V (mag (scaleS (X i) k).1) < 2 ^ (e + k + 1075).toNat := by
    intro i hi hlt hek
    obtain ⟨_, a, b, t1, t2⟩ := scale_V (X i) k (fx i hi) (hf i hi)
    refine Nat.lt_of_mul_lt_mul_right (a := 2 ^ b) ?_
    rw [t1]
    refine Nat.lt_of_lt_of_le (Nat.mul_lt_mul_of_pos_right hlt (Nat.two_pow_pos _)) ?_
    rw [← Nat.pow_add, ← Nat.pow_add]
    exact Nat.pow_le_pow_right (by decide) (by omega)
  obtain ⟨m0, a0, b0, t1, t2⟩ := scale_V (X i0) k (fx i0 hi0) (hf i0 hi0)
  have hVp : 0 < V (mag (X i0)) := Nat.lt_of_lt_of_le (Nat.two_pow_pos _) h4
  have hpos : 0 < V (mag (scaleS (X i0) k).1) := by
    refine Nat.pos_of_ne_zero fun g => ?_
    rw [g, Nat.zero_mul] at t1
    have := Nat.mul_pos hVp (Nat.two_pow_pos a0)
    omega
  have hlo : -1074 ≤ e + k := by
    refine Int.le_of_not_gt fun g => ?_
    have c1 : V (mag (X i0)) * 2 ^ a0 < 2 ^ (e + 1075).toNat * 2 ^ a0 := Nat.mul_lt_mul_of_pos_right (h3 i0 hi0) (Nat.two_pow_pos _)
    have c2 : 1 * 2 ^ b0 ≤ V (mag (scaleS (X i0) k).1) * 2 ^ b0 := Nat.mul_le_mul_right _ hpos
    rw [t1, Nat.one_mul] at c2
    have c3 := Nat.lt_of_le_of_lt c2 c1
    rw [← Nat.pow_add] at c3
    have := (Nat.pow_lt_pow_iff_right (by decide : 1 < 2)).1 c3
    omega
  have hge : 2 ^ (e + k + 1074).toNat ≤ V (mag (scaleS (X i0) k).1) := by
    refine Nat.le_of_mul_le_mul_right ?_ (Nat.two_pow_pos b0)
    rw [t1]
    refine Nat.le_trans ?_ (Nat.mul_le_mul_right _ h4)
    rw [← Nat.pow_add, ← Nat.pow_add]
    exact Nat.pow_le_pow_right (by decide) (by omega)
  have hhi : e + k ≤ 1023 := by
    refine Int.le_of_not_gt fun g => ?_
    have c1 := V_lt _ _ m0
    have hii := ii_is
    rw [V_inf] at c1
    have c3 := (Nat.pow_lt_pow_iff_right (by decide : 1 < 2)).1 (Nat.lt_of_le_of_lt hge c1)
    omega
  exact ⟨hlo, hhi, fun i hi => key i hi (h3 i hi) (by omega), i0, hi0, hge⟩
theorem scale_flag' (a n : Int) (h : (scaleS a n).2 ≤ 1) : (scaleS a n).2 = 0 := by
  by_cases hf : mag a < 9218868437227405312
  · exact scale_flag a n hf h
  · by_cases hn : isNan a = true
    · unfold scaleS at *
      rw [if_pos hn] at *
      have h' : nanF a a ≤ 1 := h
      show nanF a a = 0
      have := nanF_cases a a
      omega
    · unfold scaleS at *
      rw [if_neg hn] at *
      have hi : isInf a = true := by
        unfold isInf
        rw [decide_eq_true_eq]
        have : ¬ 9218868437227405312 < mag a := by simpa [isNan] using hn
        omega
      rw [if_pos (by rw [hi]; rfl)]
theorem dotV_congr (X Y X' Y' : Nat → Int) (n : Nat) (h : ∀ i, i < n → X i = X' i ∧ Y i = Y' i) : dotV X Y n = dotV X' Y' n := by
  induction n with
  | zero => rfl
  | succ n ih =>
    have h1 := h n (by omega)
    unfold dotV
    rw [ih (fun i hi => h i (by omega)), h1.1, h1.2]
/-- The numbers divided by 2^e. -/
def unitS (X : Nat → Int) (e : Int) : Nat → Int := fun i => (scaleS (X i) (-e)).1
/-- The root of the sum of squares, as layer 10 says. -/
def nrmV (X : Nat → Int) (n : Nat) (e : Int) : Int × Int := scaleS (sqrtS (dotV (unitS X e) (unitS X e) n)).1 e
/-- Numbers times a power of two: their root of a sum of squares, times it. -/
theorem nrm_scale (X : Nat → Int) (n : Nat) (e k : Int) (rx : ∀ i, i < n → 0 ≤ X i ∧ X i < 18446744073709551616) (hf : ∀ i, i < n → (scaleS (X i) k).2 = 0) (h : (nrmV X n e).2 ≤ 1) : nrmV (fun i => (scaleS (X i) k).1) n (e + k) = scaleS (nrmV X n e).1 k := by
  have hu : ∀ i, i < n → unitS (fun i => (scaleS (X i) k).1) (e + k) i = unitS X e i := by
    intro i hi
    unfold unitS
    rw [scale_twice (X i) k (-(e + k)) (rx i hi).1 (rx i hi).2 (hf i hi), show k + -(e + k) = -e by omega]
  have hd := dotV_congr _ _ _ _ n (fun i hi => ⟨hu i hi, hu i hi⟩)
  have hr := dotV_rng (unitS X e) (unitS X e) n
  have hb := sqrtS_bd _ hr.1 hr.2
  unfold nrmV at *
  rw [hd, scale_twice _ e k hb.1 hb.2.1 (scale_flag' _ _ h)]
end Go.Proofs.Ytokgfeeaoioegaa
