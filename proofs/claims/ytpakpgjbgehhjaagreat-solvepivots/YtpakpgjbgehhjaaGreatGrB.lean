/-
  Texts put together: ErrM DotM NormM NormS NormT NormR NormN PowM.
-/
import Derived.Test.YtpakpgjbgehhjaaGreatProg
import Derived.Test.YtpakpgjbgehhjaaGreatGrA
/-
  How far what is rounded lies from the exact number: a sum, a product, and a sum of products. Conditions: the numbers are finite, and what is rounded is not too great.
-/
namespace Go.Proofs.YtpakpgjbgehhjaaGreat
set_option linter.unusedVariables false
set_option linter.unusedSimpArgs false

/-- What a rounded number stands for. -/
theorem V_patE (x : Nat) (e : Int) (hx : 0 < x) : V (patP x e) = keptP x e * 2 ^ (lastP x e + 1074).toNat := by
  unfold patP
  rw [if_neg (by omega)]
  refine V_split _ _ (keptP_le _ _) ?_
  by_cases h : lastP x e = -1074
  · right; omega
  · left
    have hl : -1074 ≤ lastP x e := by unfold lastP; omega
    exact keptP_ge x _ hx (by omega)
theorem kept_rne (x d : Nat) (e : Int) (h : lastP x e - e = (d : Int)) : keptP x e = rne x d := by
  unfold keptP rneI
  rw [h]
  by_cases g : 0 < (d : Int)
  · rw [if_pos g, Int.toNat_natCast]
  · obtain rfl : d = 0 := by omega
    rw [if_neg g, rne_zero]
    simp
/-- With j bits below the last place: the number of bits that fall out, d, and what is left. -/
theorem V_err (x j : Nat) (e : Int) (he : e = -1074 - (j : Int)) (hx : 0 < x) : ∃ d : Nat, V (patP x e) * 2 ^ j = rne x d * 2 ^ d ∧ (lostP x e = false → x % 2 ^ d = 0) ∧ (smallP x e = false → 2 ^ d * 4503599627370496 ≤ x) ∧ (smallP x e = true → d = j) := by
  have hl : -1074 ≤ lastP x e := by unfold lastP; omega
  refine ⟨(lastP x e + 1074).toNat + j, ?_, ?_, ?_, ?_⟩
  · rw [V_patE x e hx, kept_rne x ((lastP x e + 1074).toNat + j) e (by omega), Nat.pow_add, Nat.mul_assoc]
  · intro h
    unfold lostP lostI at h
    rw [decide_eq_false_iff_not] at h
    rw [show (lastP x e - e).toNat = (lastP x e + 1074).toNat + j by omega] at h
    rcases Nat.eq_zero_or_pos (x % 2 ^ ((lastP x e + 1074).toNat + j)) with k | k
    · exact k
    · by_cases g : 0 < lastP x e - e
      · exact absurd ⟨g, by omega⟩ h
      · rw [show (lastP x e + 1074).toNat + j = 0 by omega, Nat.pow_zero, Nat.mod_one]
  · intro h
    unfold smallP at h
    rw [decide_eq_false_iff_not] at h
    have h0 : 0 < (bl x).length := (bl_length_lt x 0).2 (by rw [Nat.pow_zero]; exact hx)
    have h2 := (bl_length_lt x ((bl x).length - 1)).1 (by omega)
    refine Nat.le_trans ?_ h2
    rw [show (4503599627370496 : Nat) = 2 ^ 52 by decide, ← Nat.pow_add]
    refine Nat.pow_le_pow_right (by decide) ?_
    unfold lastP at *
    omega
  · intro h
    unfold smallP at h
    rw [decide_eq_true_eq] at h
    unfold lastP
    omega
theorem rne_exact (x d : Nat) (h : x % 2 ^ d = 0) : rne x d * 2 ^ d = x := by
  have he := Nat.div_add_mod x (2 ^ d)
  rw [h, Nat.add_zero, Nat.mul_comm] at he
  conv => lhs; rw [← he]
  rw [rne_mul, he]
/-- Nothing was lost: the exact number. Not small: within 2^-53 of it. Small: within half a last place. -/
theorem err_pat (x j : Nat) (e : Int) (he : e = -1074 - (j : Int)) (hx : 0 < x) :
    (lostP x e = false → V (patP x e) * 2 ^ j = x) ∧
    (smallP x e = false → V (patP x e) * 2 ^ j * 9007199254740992 ≤ x * 9007199254740992 + x ∧ x * 9007199254740992 ≤ V (patP x e) * 2 ^ j * 9007199254740992 + x) ∧
    (smallP x e = true → 2 * (V (patP x e) * 2 ^ j) ≤ 2 * x + 2 ^ j ∧ 2 * x ≤ 2 * (V (patP x e) * 2 ^ j) + 2 ^ j) := by
  obtain ⟨d, h1, h2, h3, h4⟩ := V_err x j e he hx
  have hn := rne_near x d
  rw [h1]
  refine ⟨fun h => rne_exact x d (h2 h), fun h => ?_, fun h => ?_⟩
  · have := h3 h
    omega
  · rw [h4 h] at hn ⊢
    exact hn
theorem num_pat (x : Nat) (e : Int) (h : flagP x e < 4) : numP x e = patP x e ∧ patP x e < 9218868437227405312 := by
  unfold flagP at h
  unfold numP
  split at h
  · omega
  · omega
/-- Not too great, and not too small: the number is within 2^-53. -/
theorem err_num (x j : Nat) (e : Int) (he : e = -1074 - (j : Int)) (h : flagP x e ≤ 1) :
    numP x e < 9218868437227405312 ∧ V (numP x e) * 2 ^ j * 9007199254740992 ≤ x * 9007199254740992 + x ∧ x * 9007199254740992 ≤ V (numP x e) * 2 ^ j * 9007199254740992 + x := by
  obtain ⟨h1, h2⟩ := num_pat x e (by omega)
  rw [h1]
  refine ⟨h2, ?_⟩
  by_cases hx : x = 0
  · subst hx
    have : patP 0 e = 0 := by unfold patP; rw [if_pos rfl]
    rw [this, V_zero]
    simp
  · obtain ⟨e1, e2, e3⟩ := err_pat x j e he (by omega)
    by_cases hl : lostP x e = false
    · have := e1 hl
      rw [this]
      omega
    · by_cases hs : smallP x e = false
      · exact e2 hs
      · exfalso
        unfold flagP at h
        rw [if_neg (by omega), if_pos ⟨hx, by simpa using hl⟩, if_pos (by simpa using hs)] at h
        omega
/-- What stands at -1074 and is small is told just so. -/
theorem small_exact (x : Nat) (h : smallP x (-1074) = true) : lostP x (-1074) = false := by
  unfold smallP at h
  rw [decide_eq_true_eq] at h
  unfold lostP lostI
  rw [decide_eq_false_iff_not, show lastP x (-1074) - -1074 = 0 by unfold lastP; omega]
  omega
theorem flag_1074 (x : Nat) (h : flagP x (-1074) < 4) : flagP x (-1074) ≤ 1 := by
  unfold flagP at *
  split at h
  · omega
  · rename_i h1
    rw [if_neg h1]
    split
    · rename_i h2
      split
      · rename_i h3
        have := small_exact x h3
        rw [this] at h2
        simp at h2
      · omega
    · omega
/-! ### With signs -/
theorem sv_of (n : Bool) (N : Nat) (h : N < 9223372036854775808) : sv (sgnB n + (N : Int)) = if n then -((V N : Nat) : Int) else ((V N : Nat) : Int) := by
  obtain ⟨h1, h2, _⟩ := sgn_mag n N h
  unfold sv
  rw [h1, h2]
theorem err_iff (U : Nat) (v s : Int) (B : Nat) (h1 : v * U ≤ s * U + B) (h2 : s * U ≤ v * U + B) : (v - s).natAbs * U ≤ B := by
  have key : (((v - s).natAbs * U : Nat) : Int) ≤ (B : Int) := by
    rw [Int.natCast_mul]
    rcases Int.le_total 0 (v - s) with g | g
    · rw [Int.natAbs_of_nonneg g, Int.sub_mul]
      omega
    · rw [Int.ofNat_natAbs_of_nonpos g, Int.neg_mul, Int.sub_mul]
      omega
  exact Int.ofNat_le.1 key
theorem err_sgn (U : Nat) (n : Bool) (x y B : Nat) (h1 : y * U ≤ x * U + B) (h2 : x * U ≤ y * U + B) : ((if n then -((y : Nat) : Int) else ((y : Nat) : Int)) - (if n then -((x : Nat) : Int) else ((x : Nat) : Int))).natAbs * U ≤ B := by
  have k1 : (y : Int) * U ≤ x * U + B := by exact_mod_cast h1
  have k2 : (x : Int) * U ≤ y * U + B := by exact_mod_cast h2
  cases n
  · exact err_iff U _ _ B k1 k2
  · rw [if_pos rfl, if_pos rfl]
    refine err_iff U _ _ B ?_ ?_
    · rw [Int.neg_mul, Int.neg_mul]; omega
    · rw [Int.neg_mul, Int.neg_mul]; omega
theorem sgn_abs (s : Int) : (if decide (s < 0) then -((s.natAbs : Nat) : Int) else ((s.natAbs : Nat) : Int)) = s := by
  by_cases g : s < 0
  · rw [decide_eq_true g, if_pos rfl]; omega
  · rw [decide_eq_false g, if_neg (by decide)]; omega
/-- A number rounded (s times 2^-1074): finite, and within 2^-53. -/
theorem rnd_err (s : Int) (h : (rndS s).2 < 4) : mag (rndS s).1 < 9218868437227405312 ∧ (sv (rndS s).1 - s).natAbs * 9007199254740992 ≤ s.natAbs := by
  unfold rndS at *
  simp only at *
  have hf : flagP s.natAbs (-1074) ≤ 1 := flag_1074 _ (by omega)
  obtain ⟨h1, h2, h3⟩ := err_num s.natAbs 0 (-1074) (by omega) hf
  rw [(sgn_mag _ _ (by omega)).1, sv_of _ _ (by omega)]
  rw [Nat.pow_zero, Nat.mul_one] at h2 h3
  refine ⟨h1, ?_⟩
  have := err_sgn 9007199254740992 (decide (s < 0)) s.natAbs _ _ h2 h3
  rw [sgn_abs] at this
  exact this
/-- A sum: finite, and within 2^-53, if it is not too great. -/
theorem add_err (a b : Int) (ha : mag a < 9218868437227405312) (hb : mag b < 9218868437227405312) (h : (addS a b).2 < 4) :
    mag (addS a b).1 < 9218868437227405312 ∧ (sv (addS a b).1 - (sv a + sv b)).natAbs * 9007199254740992 ≤ (sv a + sv b).natAbs := by
  rw [addS_fin a b ha hb] at *
  split at h
  · rename_i hz
    rw [if_pos hz]
    rw [Bool.and_eq_true, z_iff, z_iff] at hz
    have := (sgn_mag (sgn a && sgn b) 0 (by decide)).1
    rw [show ((0 : Nat) : Int) = 0 from rfl, Int.add_zero] at this
    refine ⟨by show mag (sgnB (sgn a && sgn b)) < _; rw [this]; decide, ?_⟩
    show (sv (sgnB (sgn a && sgn b)) - _).natAbs * _ ≤ _
    rw [sv_zero a hz.1, sv_zero b hz.2, sv_zero _ this]
    decide
  · rename_i hz
    rw [if_neg hz]
    exact rnd_err _ h
theorem pv_is (a b : Int) : (if sgn a != sgn b then -((V (mag a) * V (mag b) : Nat) : Int) else ((V (mag a) * V (mag b) : Nat) : Int)) = sv a * sv b := by
  unfold sv
  push_cast
  cases sgn a <;> cases sgn b <;> simp [Int.neg_mul, Int.mul_neg]
theorem pv_abs (a b : Int) : (if sgn a != sgn b then -((V (mag a) * V (mag b) : Nat) : Int) else ((V (mag a) * V (mag b) : Nat) : Int)).natAbs = V (mag a) * V (mag b) := by
  cases (sgn a != sgn b) <;> simp [-Int.natCast_mul]
/-- A product: finite, and within 2^-53, if it is neither too great nor too small. -/
theorem mul_err (a b : Int) (ha : mag a < 9218868437227405312) (hb : mag b < 9218868437227405312) (h : (mulS a b).2 ≤ 1) :
    mag (mulS a b).1 < 9218868437227405312 ∧ (sv (mulS a b).1 * ((2 ^ uu : Nat) : Int) - sv a * sv b).natAbs * 9007199254740992 ≤ (sv a * sv b).natAbs := by
  have hu := uu_is
  rw [mulS_fin a b ha hb] at *
  simp only at *
  obtain ⟨h1, h2, h3⟩ := err_num (V (mag a) * V (mag b)) uu (-2148) (by omega) (by omega)
  rw [(sgn_mag _ _ (by omega)).1, sv_of _ _ (by omega), ← pv_is]
  refine ⟨h1, ?_⟩
  have := err_sgn 9007199254740992 (sgn a != sgn b) _ _ _ h2 h3
  rw [show (if (sgn a != sgn b) = true then -((V (numP (V (mag a) * V (mag b)) (-2148)) * 2 ^ uu : Nat) : Int) else ((V (numP (V (mag a) * V (mag b)) (-2148)) * 2 ^ uu : Nat) : Int)) = (if (sgn a != sgn b) = true then -((V (numP (V (mag a) * V (mag b)) (-2148)) : Nat) : Int) else ((V (numP (V (mag a) * V (mag b)) (-2148)) : Nat) : Int)) * ((2 ^ uu : Nat) : Int) by split <;> push_cast <;> simp [Int.neg_mul]] at this
  rw [pv_abs] at *
  exact this
end Go.Proofs.YtpakpgjbgehhjaaGreat

/-
  How far a sum of products, reckoned one behind the other, lies from the exact one. Conditions: finite numbers, not too many; nothing is too great.
-/
namespace Go.Proofs.YtpakpgjbgehhjaaGreat
set_option linter.unusedVariables false
set_option linter.unusedSimpArgs false

theorem scale_err (U : Nat) (d a b : Int) (T : Nat) (h : (d - (a + b)).natAbs * U ≤ (a + b).natAbs) : (d * (T : Int) - (a * (T : Int) + b * (T : Int))).natAbs * U ≤ (a * (T : Int) + b * (T : Int)).natAbs := by
  rw [← Int.add_mul, ← Int.sub_mul, Int.natAbs_mul, Int.natAbs_mul, Int.natAbs_natCast, Nat.mul_assoc, Nat.mul_comm T U, ← Nat.mul_assoc]
  exact Nat.mul_le_mul_right T h
/-! ### Flags -/
theorem or_rng (F f : Int) (h0 : 0 ≤ F) (h1 : F ≤ 31) (g0 : 0 ≤ f) (g1 : f ≤ 31) : 0 ≤ bits .or .u8 F f ∧ bits .or .u8 F f ≤ 31 := by
  have key : ∀ a b : Fin 32, 0 ≤ bits .or .u8 ((a.val : Nat) : Int) ((b.val : Nat) : Int) ∧ bits .or .u8 ((a.val : Nat) : Int) ((b.val : Nat) : Int) ≤ 31 := by decide +kernel
  have := key ⟨F.toNat, by omega⟩ ⟨f.toNat, by omega⟩
  rw [show ((F.toNat : Nat) : Int) = F by omega, show ((f.toNat : Nat) : Int) = f by omega] at this
  exact this
theorem or_and (m : Fin 32) (F f : Int) (h0 : 0 ≤ F) (h1 : F ≤ 31) (g0 : 0 ≤ f) (g1 : f ≤ 31) (h : bits .and .u8 (bits .or .u8 F f) ((m.val : Nat) : Int) = 0) : bits .and .u8 F ((m.val : Nat) : Int) = 0 ∧ bits .and .u8 f ((m.val : Nat) : Int) = 0 := by
  have key : ∀ m a b : Fin 32, bits .and .u8 (bits .or .u8 ((a.val : Nat) : Int) ((b.val : Nat) : Int)) ((m.val : Nat) : Int) = 0 → bits .and .u8 ((a.val : Nat) : Int) ((m.val : Nat) : Int) = 0 ∧ bits .and .u8 ((b.val : Nat) : Int) ((m.val : Nat) : Int) = 0 := by decide +kernel
  have := key m ⟨F.toNat, by omega⟩ ⟨f.toNat, by omega⟩
  rw [show ((F.toNat : Nat) : Int) = F by omega, show ((f.toNat : Nat) : Int) = f by omega] at this
  exact this h
theorem flag_four (x : Nat) (e : Int) : flagP x e = 0 ∨ flagP x e = 1 ∨ flagP x e = 3 ∨ flagP x e = 5 := by
  unfold flagP
  split
  · omega
  · split
    · split <;> omega
    · omega
/-- Neither Over nor Under nor Invalid: nothing, or Inexact alone. -/
theorem flag_low (f : Nat) (h : f = 0 ∨ f = 1 ∨ f = 3 ∨ f = 5) (g : bits .and .u8 (f : Int) 22 = 0) : f ≤ 1 := by
  rcases h with rfl | rfl | rfl | rfl
  · omega
  · omega
  · exact absurd g (by decide +kernel)
  · exact absurd g (by decide +kernel)
end Go.Proofs.YtpakpgjbgehhjaaGreat

/-
  How far a root of a sum of squares, reckoned as layer 10 says, lies from the exact one: the pieces. Conditions: finite numbers; the greatest is 1 to 2 when divided.
-/
namespace Go.Proofs.YtpakpgjbgehhjaaGreat
set_option linter.unusedVariables false
set_option linter.unusedSimpArgs false

end Go.Proofs.YtpakpgjbgehhjaaGreat

/-
  A sum of squares of numbers from -2 to 2, reckoned one behind the other, against the sum of squares of what they were before they were divided. Conditions: at most 1000 numbers, one of them 1 at least.
-/
namespace Go.Proofs.YtpakpgjbgehhjaaGreat
set_option linter.unusedVariables false
set_option linter.unusedSimpArgs false

end Go.Proofs.YtpakpgjbgehhjaaGreat

/-
  How far a root of a sum of squares, reckoned as layer 10 says, lies from the exact one: within (n + 4) 2^-53. Conditions: at most 1000 finite numbers, not all nought; what is scaled back is neither too great nor too small.
-/
namespace Go.Proofs.YtpakpgjbgehhjaaGreat
set_option linter.unusedVariables false
set_option linter.unusedSimpArgs false

end Go.Proofs.YtpakpgjbgehhjaaGreat

/-
  How far a root of a sum of squares, reckoned as layer 10 says, lies from the exact one: within (n + 4) 2^-53 (P10.3). Conditions: at most 1000 finite numbers, not all nought; what is scaled back is neither too great nor too small.
-/
namespace Go.Proofs.YtpakpgjbgehhjaaGreat
set_option linter.unusedVariables false
set_option linter.unusedSimpArgs false

def hh : Nat := 435
end Go.Proofs.YtpakpgjbgehhjaaGreat

/-
  P10.3: the root of a sum of squares, reckoned as layer 10 says, is within (n + 4) 2^-53 of the exact one. Conditions: at most 1000 finite numbers, the greatest from 2^e on and beneath 2^(e + 1); what is scaled back is neither too great nor too small.
-/
namespace Go.Proofs.YtpakpgjbgehhjaaGreat
set_option linter.unusedVariables false
set_option linter.unusedSimpArgs false

/-! ### The steps behind one another -/
end Go.Proofs.YtpakpgjbgehhjaaGreat

/-
  Numbers times a power of two: where nothing is too great or too small nothing is lost; the power beneath the greatest of some numbers; their root of a sum of squares (P10.3, VecPower). Conditions: finite numbers.
-/
namespace Go.Proofs.YtpakpgjbgehhjaaGreat
set_option linter.unusedVariables false
set_option linter.unusedSimpArgs false

def ii : Nat := 2046
theorem ii_is : (ii : Int) = 2046 := rfl
theorem V_inf : V 9218868437227405312 = 2 ^ (52 + ii) := by
  have := V_split 4503599627370496 ii (by decide) (.inl (by decide))
  rw [show 4503599627370496 + ii * 4503599627370496 = 9218868437227405312 from rfl] at this
  rw [this, Nat.pow_add]
/-- The greatest of n numbers is from 2^e on, and beneath 2^(e + 1). -/
def IsPow (X : Nat → Int) (n : Nat) (e : Int) : Prop := -1074 ≤ e ∧ e ≤ 1023 ∧ (∀ i, i < n → V (mag (X i)) < 2 ^ (e + 1075).toNat) ∧ ∃ i, i < n ∧ 2 ^ (e + 1074).toNat ≤ V (mag (X i))
theorem IsPow.only {X : Nat → Int} {n : Nat} {e f : Int} (h : IsPow X n e) (g : IsPow X n f) : e = f := by
  obtain ⟨h1, h2, h3, i, hi, h4⟩ := h
  obtain ⟨g1, g2, g3, j, hj, g4⟩ := g
  have a1 := Nat.lt_of_le_of_lt h4 (g3 i hi)
  have a2 := Nat.lt_of_le_of_lt g4 (h3 j hj)
  have b1 := (Nat.pow_lt_pow_iff_right (by decide : 1 < 2)).1 a1
  have b2 := (Nat.pow_lt_pow_iff_right (by decide : 1 < 2)).1 a2
  omega
end Go.Proofs.YtpakpgjbgehhjaaGreat
