/-
  Texts put together: ErrM DotM NormM NormS NormT NormR NormN PowM.
-/
import Derived.Test.YtpakpgjbgehhjaaProg
import Derived.Test.YtpakpgjbgehhjaaGrA
/-
  How far what is rounded lies from the exact number: a sum, a product, and a sum of products. Conditions: the numbers are finite, and what is rounded is not too great.
-/
namespace Go.Proofs.Ytpakpgjbgehhjaa
set_option linter.unusedVariables false
set_option linter.unusedSimpArgs false

/-- What a rounded number stands for. -/
theorem V_patE (x : Nat) (e : Int) (hx : 0 < x) : V (patP x e) = keptP x e * 2 ^ (lastP x e + 1074).toNat := by
  unfold patP
  rw [if_neg (by omega)]
  refine V_split _ _ (keptP_le _ _) ?_
  by_cases h : lastP x e = -1074
  · right; omega
  · left
    have hl : -1074 ≤ lastP x e := by unfold lastP; omega
    exact keptP_ge x _ hx (by omega)
theorem kept_rne (x d : Nat) (e : Int) (h : lastP x e - e = (d : Int)) : keptP x e = rne x d := by
  unfold keptP rneI
  rw [h]
  by_cases g : 0 < (d : Int)
  · rw [if_pos g, Int.toNat_natCast]
  · obtain rfl : d = 0 := by omega
    rw [if_neg g, rne_zero]
    simp
/-- With j bits below the last place: the number of bits that fall out, d, and what is left. -/
theorem V_err (x j : Nat) (e : Int) (he : e = -1074 - (j : Int)) (hx : 0 < x) : ∃ d : Nat, V (patP x e) * 2 ^ j = rne x d * 2 ^ d ∧ (lostP x e = false → x % 2 ^ d = 0) ∧ (smallP x e = false → 2 ^ d * 4503599627370496 ≤ x) ∧ (smallP x e = true → d = j) := by
  have hl : -1074 ≤ lastP x e := by unfold lastP; omega
  refine ⟨(lastP x e + 1074).toNat + j, ?_, ?_, ?_, ?_⟩
  · rw [V_patE x e hx, kept_rne x ((lastP x e + 1074).toNat + j) e (by omega), Nat.pow_add, Nat.mul_assoc]
  · intro h
    unfold lostP lostI at h
    rw [decide_eq_false_iff_not] at h
    rw [show (lastP x e - e).toNat = (lastP x e + 1074).toNat + j by omega] at h
    rcases Nat.eq_zero_or_pos (x % 2 ^ ((lastP x e + 1074).toNat + j)) with k | k
    · exact k
    · by_cases g : 0 < lastP x e - e
      · exact absurd ⟨g, by omega⟩ h
      · rw [show (lastP x e + 1074).toNat + j = 0 by omega, Nat.pow_zero, Nat.mod_one]
  · intro h
    unfold smallP at h
    rw [decide_eq_false_iff_not] at h
    have h0 : 0 < (bl x).length := (bl_length_lt x 0).2 (by rw [Nat.pow_zero]; exact hx)
    have h2 := (bl_length_lt x ((bl x).length - 1)).1 (by omega)
    refine Nat.le_trans ?_ h2
    rw [show (4503599627370496 : Nat) = 2 ^ 52 by decide, ← Nat.pow_add]
    refine Nat.pow_le_pow_right (by decide) ?_
    unfold lastP at *
    omega
  · intro h
    unfold smallP at h
    rw [decide_eq_true_eq] at h
    unfold lastP
    omega
theorem rne_exact (x d : Nat) (h : x % 2 ^ d = 0) : rne x d * 2 ^ d = x := by
  have he := Nat.div_add_mod x (2 ^ d)
  rw [h, Nat.add_zero, Nat.mul_comm] at he
  conv => lhs; rw [← he]
  rw [rne_mul, he]
/-- Nothing was lost: the exact number. Not small: within 2^-53 of it. Small: within half a last place. -/
theorem err_pat (x j : Nat) (e : Int) (he : e = -1074 - (j : Int)) (hx : 0 < x) :
    (lostP x e = false → V (patP x e) * 2 ^ j = x) ∧
    (smallP x e = false → V (patP x e) * 2 ^ j * 9007199254740992 ≤ x * 9007199254740992 + x ∧ x * 9007199254740992 ≤ V (patP x e) * 2 ^ j * 9007199254740992 + x) ∧
    (smallP x e = true → 2 * (V (patP x e) * 2 ^ j) ≤ 2 * x + 2 ^ j ∧ 2 * x ≤ 2 * (V (patP x e) * 2 ^ j) + 2 ^ j) := by
  obtain ⟨d, h1, h2, h3, h4⟩ := V_err x j e he hx
  have hn := rne_near x d
  rw [h1]
  refine ⟨fun h => rne_exact x d (h2 h), fun h => ?_, fun h => ?_⟩
  · have := h3 h
    omega
  · rw [h4 h] at hn ⊢
    exact hn
theorem num_pat (x : Nat) (e : Int) (h : flagP x e < 4) : numP x e = patP x e ∧ patP x e < 9218868437227405312 := by
  unfold flagP at h
  unfold numP
  split at h
  · omega
  · omega
/-- Not too great, and not too small: the number is within 2^-53. -/
theorem err_num (x j : Nat) (e : Int) (he : e = -1074 - (j : Int)) (h : flagP x e ≤ 1) :
    numP x e < 9218868437227405312 ∧ V (numP x e) * 2 ^ j * 9007199254740992 ≤ x * 9007199254740992 + x ∧ x * 9007199254740992 ≤ V (numP x e) * 2 ^ j * 9007199254740992 + x := by
  obtain ⟨h1, h2⟩ := num_pat x e (by omega)
  rw [h1]
  refine ⟨h2, ?_⟩
  by_cases hx : x = 0
  · subst hx
    have : patP 0 e = 0 := by unfold patP; rw [if_pos rfl]
    rw [this, V_zero]
    simp
  · obtain ⟨e1, e2, e3⟩ := err_pat x j e he (by omega)
    by_cases hl : lostP x e = false
    · have := e1 hl
      rw [this]
      omega
    · by_cases hs : smallP x e = false
      · exact e2 hs
      · exfalso
        unfold flagP at h
        rw [if_neg (by omega), if_pos ⟨hx, by simpa using hl⟩, if_pos (by simpa using hs)] at h
        omega
theorem half_up (x y t H : Nat) (h : 2 * y ≤ 2 * x + t) : y * (2 * H) ≤ x * (2 * H) + t * H := by
  have := Nat.mul_le_mul_right H h
  rw [Nat.add_mul] at this
  rw [show y * (2 * H) = 2 * y * H by rw [Nat.mul_comm 2 y, Nat.mul_assoc], show x * (2 * H) = 2 * x * H by rw [Nat.mul_comm 2 x, Nat.mul_assoc]]
  exact this
/-- Not too great: within 2^-53, or within half a last place. -/
theorem err_low (x j : Nat) (e : Int) (he : e = -1074 - (j : Int)) (h : flagP x e < 4) :
    numP x e < 9218868437227405312 ∧ V (numP x e) * 2 ^ j * 9007199254740992 ≤ x * 9007199254740992 + x + 2 ^ j * 4503599627370496 ∧ x * 9007199254740992 ≤ V (numP x e) * 2 ^ j * 9007199254740992 + x + 2 ^ j * 4503599627370496 := by
  obtain ⟨h1, h2⟩ := num_pat x e h
  rw [h1]
  refine ⟨h2, ?_⟩
  by_cases hx : x = 0
  · subst hx
    have : patP 0 e = 0 := by unfold patP; rw [if_pos rfl]
    rw [this, V_zero]
    simp
  · obtain ⟨e1, e2, e3⟩ := err_pat x j e he (by omega)
    generalize V (patP x e) * 2 ^ j = y at *
    generalize 2 ^ j = t at *
    by_cases hs : smallP x e = false
    · have := e2 hs
      exact ⟨Nat.le_trans this.1 (Nat.le_add_right _ _), Nat.le_trans this.2 (Nat.le_add_right _ _)⟩
    · obtain ⟨g1, g2⟩ := e3 (by simpa using hs)
      have k1 := half_up x y t 4503599627370496 g1
      have k2 := half_up y x t 4503599627370496 g2
      rw [show 2 * 4503599627370496 = 9007199254740992 from rfl] at k1 k2
      exact ⟨Nat.le_trans k1 (Nat.add_le_add_right (Nat.le_add_right _ _) _), Nat.le_trans k2 (Nat.add_le_add_right (Nat.le_add_right _ _) _)⟩
/-- What stands at -1074 and is small is told just so. -/
theorem small_exact (x : Nat) (h : smallP x (-1074) = true) : lostP x (-1074) = false := by
  unfold smallP at h
  rw [decide_eq_true_eq] at h
  unfold lostP lostI
  rw [decide_eq_false_iff_not, show lastP x (-1074) - -1074 = 0 by unfold lastP; omega]
  omega
theorem flag_1074 (x : Nat) (h : flagP x (-1074) < 4) : flagP x (-1074) ≤ 1 := by
  unfold flagP at *
  split at h
  · omega
  · rename_i h1
    rw [if_neg h1]
    split
    · rename_i h2
      split
      · rename_i h3
        have := small_exact x h3
        rw [this] at h2
        simp at h2
      · omega
    · omega
/-! ### With signs -/
theorem sv_of (n : Bool) (N : Nat) (h : N < 9223372036854775808) : sv (sgnB n + (N : Int)) = if n then -((V N : Nat) : Int) else ((V N : Nat) : Int) := by
  obtain ⟨h1, h2, _⟩ := sgn_mag n N h
  unfold sv
  rw [h1, h2]
theorem err_iff (U : Nat) (v s : Int) (B : Nat) (h1 : v * U ≤ s * U + B) (h2 : s * U ≤ v * U + B) : (v - s).natAbs * U ≤ B := by
  have key : (((v - s).natAbs * U : Nat) : Int) ≤ (B : Int) := by
    rw [Int.natCast_mul]
    rcases Int.le_total 0 (v - s) with g | g
    · rw [Int.natAbs_of_nonneg g, Int.sub_mul]
      omega
    · rw [Int.ofNat_natAbs_of_nonpos g, Int.neg_mul, Int.sub_mul]
      omega
  exact Int.ofNat_le.1 key
theorem err_sgn (U : Nat) (n : Bool) (x y B : Nat) (h1 : y * U ≤ x * U + B) (h2 : x * U ≤ y * U + B) : ((if n then -((y : Nat) : Int) else ((y : Nat) : Int)) - (if n then -((x : Nat) : Int) else ((x : Nat) : Int))).natAbs * U ≤ B := by
  have k1 : (y : Int) * U ≤ x * U + B := by exact_mod_cast h1
  have k2 : (x : Int) * U ≤ y * U + B := by exact_mod_cast h2
  cases n
  · exact err_iff U _ _ B k1 k2
  · rw [if_pos rfl, if_pos rfl]
    refine err_iff U _ _ B ?_ ?_
    · rw [Int.neg_mul, Int.neg_mul]; omega
    · rw [Int.neg_mul, Int.neg_mul]; omega
theorem sgn_abs (s : Int) : (if decide (s < 0) then -((s.natAbs : Nat) : Int) else ((s.natAbs : Nat) : Int)) = s := by
  by_cases g : s < 0
  · rw [decide_eq_true g, if_pos rfl]; omega
  · rw [decide_eq_false g, if_neg (by decide)]; omega
/-- A number rounded (s times 2^-1074): finite, and within 2^-53. -/
theorem rnd_err (s : Int) (h : (rndS s).2 < 4) : mag (rndS s).1 < 9218868437227405312 ∧ (sv (rndS s).1 - s).natAbs * 9007199254740992 ≤ s.natAbs := by
  unfold rndS at *
  simp only at *
  have hf : flagP s.natAbs (-1074) ≤ 1 := flag_1074 _ (by omega)
  obtain ⟨h1, h2, h3⟩ := err_num s.natAbs 0 (-1074) (by omega) hf
  rw [(sgn_mag _ _ (by omega)).1, sv_of _ _ (by omega)]
  rw [Nat.pow_zero, Nat.mul_one] at h2 h3
  refine ⟨h1, ?_⟩
  have := err_sgn 9007199254740992 (decide (s < 0)) s.natAbs _ _ h2 h3
  rw [sgn_abs] at this
  exact this
/-- A sum: finite, and within 2^-53, if it is not too great. -/
theorem add_err (a b : Int) (ha : mag a < 9218868437227405312) (hb : mag b < 9218868437227405312) (h : (addS a b).2 < 4) :
    mag (addS a b).1 < 9218868437227405312 ∧ (sv (addS a b).1 - (sv a + sv b)).natAbs * 9007199254740992 ≤ (sv a + sv b).natAbs := by
  rw [addS_fin a b ha hb] at *
  split at h
  · rename_i hz
    rw [if_pos hz]
    rw [Bool.and_eq_true, z_iff, z_iff] at hz
    have := (sgn_mag (sgn a && sgn b) 0 (by decide)).1
    rw [show ((0 : Nat) : Int) = 0 from rfl, Int.add_zero] at this
    refine ⟨by show mag (sgnB (sgn a && sgn b)) < _; rw [this]; decide, ?_⟩
    show (sv (sgnB (sgn a && sgn b)) - _).natAbs * _ ≤ _
    rw [sv_zero a hz.1, sv_zero b hz.2, sv_zero _ this]
    decide
  · rename_i hz
    rw [if_neg hz]
    exact rnd_err _ h
/-- Nought and a number: the number. -/
theorem add_zero_sv (b : Int) (h0 : 0 ≤ b) (h1 : b < 18446744073709551616) (hb : mag b < 9218868437227405312) : mag (addS 0 b).1 < 9218868437227405312 ∧ sv (addS 0 b).1 = sv b := by
  have m0 : mag 0 = 0 := by decide
  rw [addS_fin 0 b (by rw [m0]; decide) hb]
  by_cases hz : mag b = 0
  · rw [if_pos (by rw [Bool.and_eq_true, z_iff, z_iff]; exact ⟨m0, hz⟩)]
    have := (sgn_mag (sgn 0 && sgn b) 0 (by decide)).1
    rw [show ((0 : Nat) : Int) = 0 from rfl, Int.add_zero] at this
    refine ⟨by show mag (sgnB (sgn 0 && sgn b)) < _; rw [this]; decide, ?_⟩
    show sv (sgnB (sgn 0 && sgn b)) = _
    rw [sv_zero b hz, sv_zero _ this]
  · rw [if_neg (by rw [Bool.and_eq_true, z_iff, z_iff]; exact fun h => hz h.2), sv_zero 0 m0, Int.zero_add, rnd_self b h0 h1 hb hz]
    exact ⟨hb, rfl⟩
theorem pv_is (a b : Int) : (if sgn a != sgn b then -((V (mag a) * V (mag b) : Nat) : Int) else ((V (mag a) * V (mag b) : Nat) : Int)) = sv a * sv b := by
  unfold sv
  push_cast
  cases sgn a <;> cases sgn b <;> simp [Int.neg_mul, Int.mul_neg]
theorem pv_abs (a b : Int) : (if sgn a != sgn b then -((V (mag a) * V (mag b) : Nat) : Int) else ((V (mag a) * V (mag b) : Nat) : Int)).natAbs = V (mag a) * V (mag b) := by
  cases (sgn a != sgn b) <;> simp [-Int.natCast_mul]
/-- A product: finite, and within 2^-53, if it is neither too great nor too small. -/
theorem mul_err (a b : Int) (ha : mag a < 9218868437227405312) (hb : mag b < 9218868437227405312) (h : (mulS a b).2 ≤ 1) :
    mag (mulS a b).1 < 9218868437227405312 ∧ (sv (mulS a b).1 * ((2 ^ uu : Nat) : Int) - sv a * sv b).natAbs * 9007199254740992 ≤ (sv a * sv b).natAbs := by
  have hu := uu_is
  rw [mulS_fin a b ha hb] at *
  simp only at *
  obtain ⟨h1, h2, h3⟩ := err_num (V (mag a) * V (mag b)) uu (-2148) (by omega) (by omega)
  rw [(sgn_mag _ _ (by omega)).1, sv_of _ _ (by omega), ← pv_is]
  refine ⟨h1, ?_⟩
  have := err_sgn 9007199254740992 (sgn a != sgn b) _ _ _ h2 h3
  rw [show (if (sgn a != sgn b) = true then -((V (numP (V (mag a) * V (mag b)) (-2148)) * 2 ^ uu : Nat) : Int) else ((V (numP (V (mag a) * V (mag b)) (-2148)) * 2 ^ uu : Nat) : Int)) = (if (sgn a != sgn b) = true then -((V (numP (V (mag a) * V (mag b)) (-2148)) : Nat) : Int) else ((V (numP (V (mag a) * V (mag b)) (-2148)) : Nat) : Int)) * ((2 ^ uu : Nat) : Int) by split <;> push_cast <;> simp [Int.neg_mul]] at this
  rw [pv_abs] at *
  exact this
/-- A product, if it is not too great: within 2^-53 of it and half a last place. -/
theorem mul_low (a b : Int) (ha : mag a < 9218868437227405312) (hb : mag b < 9218868437227405312) (h : (mulS a b).2 < 4) :
    mag (mulS a b).1 < 9218868437227405312 ∧ (sv (mulS a b).1 * ((2 ^ uu : Nat) : Int) - sv a * sv b).natAbs * 9007199254740992 ≤ (sv a * sv b).natAbs + 2 ^ uu * 4503599627370496 := by
  have hu := uu_is
  rw [mulS_fin a b ha hb] at *
  simp only at *
  obtain ⟨h1, h2, h3⟩ := err_low (V (mag a) * V (mag b)) uu (-2148) (by omega) (by omega)
  rw [(sgn_mag _ _ (by omega)).1, sv_of _ _ (by omega), ← pv_is]
  refine ⟨h1, ?_⟩
  rw [Nat.add_assoc] at h2 h3
  have := err_sgn 9007199254740992 (sgn a != sgn b) _ _ _ h2 h3
  rw [show (if (sgn a != sgn b) = true then -((V (numP (V (mag a) * V (mag b)) (-2148)) * 2 ^ uu : Nat) : Int) else ((V (numP (V (mag a) * V (mag b)) (-2148)) * 2 ^ uu : Nat) : Int)) = (if (sgn a != sgn b) = true then -((V (numP (V (mag a) * V (mag b)) (-2148)) : Nat) : Int) else ((V (numP (V (mag a) * V (mag b)) (-2148)) : Nat) : Int)) * ((2 ^ uu : Nat) : Int) by split <;> push_cast <;> simp [Int.neg_mul]] at this
  rw [pv_abs] at *
  exact this
end Go.Proofs.Ytpakpgjbgehhjaa

/-
  How far a sum of products, reckoned one behind the other, lies from the exact one. Conditions: finite numbers, not too many; nothing is too great.
-/
namespace Go.Proofs.Ytpakpgjbgehhjaa
set_option linter.unusedVariables false
set_option linter.unusedSimpArgs false

/-- The sum of products, from plus zero on, one behind the other. -/
def dotV (X Y : Nat → Int) : Nat → Int
  | 0 => 0
  | k + 1 => (addS (dotV X Y k) (mulS (X k) (Y k)).1).1
/-- Its flags, on top of F. -/
def dotF (F : Int) (X Y : Nat → Int) : Nat → Int
  | 0 => F
  | k + 1 => bits .or .u8 (bits .or .u8 (dotF F X Y k) (mulS (X k) (Y k)).2) (addS (dotV X Y k) (mulS (X k) (Y k)).1).2
/-- The exact sum, times 2^2148. -/
def sumP (X Y : Nat → Int) : Nat → Int
  | 0 => 0
  | k + 1 => sumP X Y k + sv (X k) * sv (Y k)
/-- The sum of the products' magnitudes, times 2^2148. -/
def absP (X Y : Nat → Int) : Nat → Nat
  | 0 => 0
  | k + 1 => absP X Y k + (sv (X k) * sv (Y k)).natAbs
theorem sum_abs (X Y : Nat → Int) (n : Nat) : (sumP X Y n).natAbs ≤ absP X Y n := by
  induction n with
  | zero => exact Nat.le_refl _
  | succ n ih => unfold sumP absP; omega
theorem dotV_rng (X Y : Nat → Int) (n : Nat) : 0 ≤ dotV X Y n ∧ dotV X Y n < 18446744073709551616 := by
  induction n with
  | zero => exact ⟨show (0 : Int) ≤ 0 by decide, show (0 : Int) < 18446744073709551616 by decide⟩
  | succ n ih =>
    have h := mulS_bd (X n) (Y n)
    have := addS_bd (dotV X Y n) (mulS (X n) (Y n)).1 ih.1 ih.2 h.1 h.2.1
    exact ⟨this.1, this.2.1⟩
theorem dot_step (U k A t : Nat) (D S q P D' : Int) (hk : 1 ≤ k) (hU : 3 * k ≤ U) (hS : S.natAbs ≤ A) (h1 : (D - S).natAbs * U ≤ (2 * k - 1) * A + 3 * k * t) (h2 : (q - P).natAbs * U ≤ P.natAbs + t) (h3 : (D' - (D + q)).natAbs * U ≤ (D + q).natAbs) :
    (D' - (S + P)).natAbs * U ≤ (2 * (k + 1) - 1) * (A + P.natAbs) + 3 * (k + 1) * t := by
  have a1 : (D - S).natAbs ≤ A + t := by
    refine Nat.le_of_mul_le_mul_right (Nat.le_trans h1 ?_) (show 0 < U by omega)
    rw [Nat.add_mul, Nat.mul_comm A U, Nat.mul_comm t U]
    exact Nat.add_le_add (Nat.mul_le_mul_right A (by omega)) (Nat.mul_le_mul_right t hU)
  have a2 : (q - P).natAbs ≤ P.natAbs + t := Nat.le_trans (Nat.le_mul_of_pos_right _ (show 0 < U by omega)) h2
  have b1 : (D' - (S + P)).natAbs ≤ (D' - (D + q)).natAbs + (D - S).natAbs + (q - P).natAbs := by omega
  have b2 : (D + q).natAbs ≤ S.natAbs + (D - S).natAbs + P.natAbs + (q - P).natAbs := by omega
  have c1 := Nat.mul_le_mul_right U b1
  rw [Nat.add_mul, Nat.add_mul] at c1
  have e1 : (2 * (k + 1) - 1) * (A + P.natAbs) = (2 * k - 1) * A + 2 * A + (2 * k - 1) * P.natAbs + 2 * P.natAbs := by
    rw [show 2 * (k + 1) - 1 = (2 * k - 1) + 2 by omega, Nat.add_mul, Nat.mul_add, Nat.mul_add]
    omega
  have e2 : 3 * (k + 1) * t = 3 * k * t + 3 * t := by rw [show 3 * (k + 1) = 3 * k + 3 by omega, Nat.add_mul]
  have e3 : P.natAbs ≤ (2 * k - 1) * P.natAbs := Nat.le_mul_of_pos_left _ (by omega)
  rw [e1, e2]
  generalize (2 * k - 1) * A = m1 at *
  generalize (2 * k - 1) * P.natAbs = m2 at *
  generalize 3 * k * t = m3 at *
  generalize (D' - (S + P)).natAbs * U = m4 at *
  generalize (D' - (D + q)).natAbs * U = m5 at *
  generalize (D - S).natAbs * U = m6 at *
  generalize (q - P).natAbs * U = m7 at *
  omega
theorem scale_err (U : Nat) (d a b : Int) (T : Nat) (h : (d - (a + b)).natAbs * U ≤ (a + b).natAbs) : (d * (T : Int) - (a * (T : Int) + b * (T : Int))).natAbs * U ≤ (a * (T : Int) + b * (T : Int)).natAbs := by
  rw [← Int.add_mul, ← Int.sub_mul, Int.natAbs_mul, Int.natAbs_mul, Int.natAbs_natCast, Nat.mul_assoc, Nat.mul_comm T U, ← Nat.mul_assoc]
  exact Nat.mul_le_mul_right T h
/-- Each product is near, with t besides; each sum is not too great. -/
theorem dot_gen (X Y : Nat → Int) (t : Nat) : ∀ n, 3 * n ≤ 9007199254740992 →
    (∀ i, i < n → mag (mulS (X i) (Y i)).1 < 9218868437227405312 ∧ (sv (mulS (X i) (Y i)).1 * ((2 ^ uu : Nat) : Int) - sv (X i) * sv (Y i)).natAbs * 9007199254740992 ≤ (sv (X i) * sv (Y i)).natAbs + t) →
    (∀ i, i < n → (addS (dotV X Y i) (mulS (X i) (Y i)).1).2 < 4) →
    mag (dotV X Y n) < 9218868437227405312 ∧ (n = 0 ∨ (sv (dotV X Y n) * ((2 ^ uu : Nat) : Int) - sumP X Y n).natAbs * 9007199254740992 ≤ (2 * n - 1) * absP X Y n + 3 * n * t)
  | 0, _, _, _ => ⟨by show mag 0 < _; decide, .inl rfl⟩
  | k + 1, hn, hm, ha => by
    obtain ⟨i1, i2⟩ := dot_gen X Y t k (by omega) (fun i hi => hm i (by omega)) (fun i hi => ha i (by omega))
    obtain ⟨m1, m2⟩ := hm k (by omega)
    have hb := mulS_bd (X k) (Y k)
    by_cases hk : k = 0
    · subst hk
      obtain ⟨z1, z2⟩ := add_zero_sv (mulS (X 0) (Y 0)).1 hb.1 hb.2.1 m1
      refine ⟨z1, .inr ?_⟩
      show (sv (addS 0 (mulS (X 0) (Y 0)).1).1 * _ - (0 + sv (X 0) * sv (Y 0))).natAbs * _ ≤ (2 * (0 + 1) - 1) * (0 + (sv (X 0) * sv (Y 0)).natAbs) + 3 * (0 + 1) * t
      rw [z2, Int.zero_add, show 2 * (0 + 1) - 1 = 1 from rfl, Nat.one_mul, show 3 * (0 + 1) = 3 from rfl, Nat.zero_add (sv (X 0) * sv (Y 0)).natAbs]
      exact Nat.le_trans m2 (Nat.add_le_add_left (show t ≤ 3 * t by omega) _)
    · obtain ⟨z1, z2⟩ := add_err _ _ i1 m1 (ha k (by omega))
      refine ⟨z1, .inr ?_⟩
      have h1 := i2.resolve_left hk
      have := dot_step 9007199254740992 k (absP X Y k) t _ _ _ _ _ (by omega) (by omega) (sum_abs X Y k) h1 m2 (scale_err 9007199254740992 _ _ _ (2 ^ uu) z2)
      exact this
/-! ### Flags -/
theorem or_rng (F f : Int) (h0 : 0 ≤ F) (h1 : F ≤ 31) (g0 : 0 ≤ f) (g1 : f ≤ 31) : 0 ≤ bits .or .u8 F f ∧ bits .or .u8 F f ≤ 31 := by
  have key : ∀ a b : Fin 32, 0 ≤ bits .or .u8 ((a.val : Nat) : Int) ((b.val : Nat) : Int) ∧ bits .or .u8 ((a.val : Nat) : Int) ((b.val : Nat) : Int) ≤ 31 := by decide +kernel
  have := key ⟨F.toNat, by omega⟩ ⟨f.toNat, by omega⟩
  rw [show ((F.toNat : Nat) : Int) = F by omega, show ((f.toNat : Nat) : Int) = f by omega] at this
  exact this
theorem or_and (m : Fin 32) (F f : Int) (h0 : 0 ≤ F) (h1 : F ≤ 31) (g0 : 0 ≤ f) (g1 : f ≤ 31) (h : bits .and .u8 (bits .or .u8 F f) ((m.val : Nat) : Int) = 0) : bits .and .u8 F ((m.val : Nat) : Int) = 0 ∧ bits .and .u8 f ((m.val : Nat) : Int) = 0 := by
  have key : ∀ m a b : Fin 32, bits .and .u8 (bits .or .u8 ((a.val : Nat) : Int) ((b.val : Nat) : Int)) ((m.val : Nat) : Int) = 0 → bits .and .u8 ((a.val : Nat) : Int) ((m.val : Nat) : Int) = 0 ∧ bits .and .u8 ((b.val : Nat) : Int) ((m.val : Nat) : Int) = 0 := by decide +kernel
  have := key m ⟨F.toNat, by omega⟩ ⟨f.toNat, by omega⟩
  rw [show ((F.toNat : Nat) : Int) = F by omega, show ((f.toNat : Nat) : Int) = f by omega] at this
  exact this h
theorem flag_four (x : Nat) (e : Int) : flagP x e = 0 ∨ flagP x e = 1 ∨ flagP x e = 3 ∨ flagP x e = 5 := by
  unfold flagP
  split
  · omega
  · split
    · split <;> omega
    · omega
/-- Neither Over nor Under nor Invalid: nothing, or Inexact alone. -/
theorem flag_low (f : Nat) (h : f = 0 ∨ f = 1 ∨ f = 3 ∨ f = 5) (g : bits .and .u8 (f : Int) 22 = 0) : f ≤ 1 := by
  rcases h with rfl | rfl | rfl | rfl
  · omega
  · omega
  · exact absurd g (by decide +kernel)
  · exact absurd g (by decide +kernel)
theorem dotF_rng (F : Int) (X Y : Nat → Int) (h0 : 0 ≤ F) (h1 : F ≤ 31) (n : Nat) : 0 ≤ dotF F X Y n ∧ dotF F X Y n ≤ 31 := by
  induction n with
  | zero => exact ⟨h0, h1⟩
  | succ n ih =>
    have hm := mulS_bd (X n) (Y n)
    have hd := dotV_rng X Y n
    have ha := addS_bd (dotV X Y n) (mulS (X n) (Y n)).1 hd.1 hd.2 hm.1 hm.2.1
    have h2 := or_rng _ _ ih.1 ih.2 hm.2.2.1 hm.2.2.2
    exact or_rng _ _ h2.1 h2.2 ha.2.2.1 ha.2.2.2
/-- Of flags that hold none of a mask, each step's hold none. -/
theorem dotF_and (m : Fin 32) (F : Int) (X Y : Nat → Int) (h0 : 0 ≤ F) (h1 : F ≤ 31) : ∀ n, bits .and .u8 (dotF F X Y n) ((m.val : Nat) : Int) = 0 → ∀ i, i < n → bits .and .u8 (mulS (X i) (Y i)).2 ((m.val : Nat) : Int) = 0 ∧ bits .and .u8 (addS (dotV X Y i) (mulS (X i) (Y i)).1).2 ((m.val : Nat) : Int) = 0
  | 0, _, i, hi => absurd hi (Nat.not_lt_zero _)
  | n + 1, h, i, hi => by
    have hm := mulS_bd (X n) (Y n)
    have hd := dotV_rng X Y n
    have ha := addS_bd (dotV X Y n) (mulS (X n) (Y n)).1 hd.1 hd.2 hm.1 hm.2.1
    have hF := dotF_rng F X Y h0 h1 n
    have h2 := or_rng _ _ hF.1 hF.2 hm.2.2.1 hm.2.2.2
    obtain ⟨e1, e2⟩ := or_and m _ _ h2.1 h2.2 ha.2.2.1 ha.2.2.2 h
    obtain ⟨e3, e4⟩ := or_and m _ _ hF.1 hF.2 hm.2.2.1 hm.2.2.2 e1
    by_cases hin : i = n
    · subst hin; exact ⟨e4, e2⟩
    · exact dotF_and m F X Y h0 h1 n e3 i (by omega)
/-- P10.4: finite numbers, and neither Over nor Under nor Invalid has come: within 2 n 2^-53. -/
theorem dot_err (X Y : Nat → Int) (n : Nat) (hn : n ≤ 1048576) (fx : ∀ i, i < n → mag (X i) < 9218868437227405312) (fy : ∀ i, i < n → mag (Y i) < 9218868437227405312) (h : bits .and .u8 (dotF 0 X Y n) 22 = 0) :
    mag (dotV X Y n) < 9218868437227405312 ∧ (sv (dotV X Y n) * ((2 ^ uu : Nat) : Int) - sumP X Y n).natAbs * 9007199254740992 ≤ 2 * n * absP X Y n := by
  have hfl := dotF_and ⟨22, by decide⟩ 0 X Y (by decide) (by decide) n h
  have key : ∀ k, k ≤ n → mag (dotV X Y k) < 9218868437227405312 ∧ (k = 0 ∨ (sv (dotV X Y k) * ((2 ^ uu : Nat) : Int) - sumP X Y k).natAbs * 9007199254740992 ≤ (2 * k - 1) * absP X Y k + 3 * k * 0) ∧ ∀ i, i < k → (addS (dotV X Y i) (mulS (X i) (Y i)).1).2 < 4 := by
    intro k
    induction k with
    | zero => intro _; exact ⟨by show mag 0 < _; decide, .inl rfl, fun i hi => absurd hi (Nat.not_lt_zero _)⟩
    | succ k ih =>
      intro hk
      obtain ⟨j1, j2, j3⟩ := ih (by omega)
      have hM : ∀ i, i < k + 1 → mag (mulS (X i) (Y i)).1 < 9218868437227405312 ∧ (sv (mulS (X i) (Y i)).1 * ((2 ^ uu : Nat) : Int) - sv (X i) * sv (Y i)).natAbs * 9007199254740992 ≤ (sv (X i) * sv (Y i)).natAbs + 0 := by
        intro i hi
        refine mul_err _ _ (fx i (by omega)) (fy i (by omega)) ?_
        have hf := (hfl i (by omega)).1
        rw [mulS_fin _ _ (fx i (by omega)) (fy i (by omega))] at hf ⊢
        have := flag_low _ (flag_four _ _) hf
        show ((flagP _ _ : Nat) : Int) ≤ 1
        omega
      have hA : ∀ i, i < k + 1 → (addS (dotV X Y i) (mulS (X i) (Y i)).1).2 < 4 := by
        intro i hi
        by_cases hik : i = k
        · subst hik
          have hf := (hfl i (by omega)).2
          have m1 := (hM i (by omega)).1
          rw [addS_fin _ _ j1 m1] at hf ⊢
          split
          · exact (by decide : (0 : Int) < 4)
          · rename_i hz
            rw [if_neg hz] at hf
            have := flag_low _ (flag_four _ _) hf
            show ((flagP _ _ : Nat) : Int) < 4
            omega
        · exact j3 i (by omega)
      obtain ⟨g1, g2⟩ := dot_gen X Y 0 (k + 1) (by omega) hM hA
      exact ⟨g1, g2, hA⟩
  obtain ⟨k1, k2, _⟩ := key n (Nat.le_refl _)
  refine ⟨k1, ?_⟩
  rcases k2 with rfl | k2
  · show (sv 0 * _ - 0).natAbs * _ ≤ _
    rw [sv_zero 0 (by decide)]
    simp
  · rw [Nat.mul_zero, Nat.add_zero] at k2
    exact Nat.le_trans k2 (Nat.mul_le_mul_right _ (by omega))
end Go.Proofs.Ytpakpgjbgehhjaa

/-
  How far a root of a sum of squares, reckoned as layer 10 says, lies from the exact one: the pieces. Conditions: finite numbers; the greatest is 1 to 2 when divided.
-/
namespace Go.Proofs.Ytpakpgjbgehhjaa
set_option linter.unusedVariables false
set_option linter.unusedSimpArgs false

def nj : Nat := 1100
theorem nj_is : (nj : Int) = 1100 := rfl
/-- The pattern of a power of two. -/
theorem pat_pow (m : Int) (h : -1022 ≤ m) : patP 1 m = (m + 1023).toNat * 4503599627370496 := by
  have h1 := patP_scale 1 (m - (52 : Nat)) 52
  rw [show m - (52 : Nat) + (52 : Nat) = m by omega] at h1
  rw [← h1, show 1 * 2 ^ 52 = 4503599627370496 by decide, patP_exact 4503599627370496 _ (by decide) (by decide) (by omega) (.inl (by decide))]
  omega
/-- What lies beneath 2^1000 is not too great. -/
theorem flag_pow (x : Nat) (e : Int) (k : Nat) (hx : x ≤ 2 ^ k) (hk : e + k ≤ 1000) : flagP x e < 4 := by
  have h1 : x ≤ 2 ^ (1000 - e).toNat := Nat.le_trans hx (Nat.pow_le_pow_right (by decide) (by omega))
  have h2 := patP_mono x _ e h1
  have h3 := patP_scale 1 e (1000 - e).toNat
  rw [Nat.one_mul, show e + ((1000 - e).toNat : Int) = 1000 by omega, pat_pow 1000 (by decide)] at h3
  rw [h3] at h2
  have h4 : (1000 + 1023 : Int).toNat * 4503599627370496 = 9110782046170513408 := by decide
  rw [h4] at h2
  unfold flagP
  rw [if_neg (by omega)]
  split
  · split <;> omega
  · omega
/-- What lies beneath a power of two lies beneath it when it is rounded. -/
theorem V_le_pow (x j k : Nat) (e : Int) (he : e = -1074 - (j : Int)) (hjk : j ≤ k) (hx : x ≤ 2 ^ k) : V (patP x e) ≤ 2 ^ (k - j) := by
  have h2 := V_mono _ _ (patP_mono x _ e hx)
  have h3 := patP_scale (2 ^ (k - j)) e j
  rw [← Nat.pow_add, show k - j + j = k by omega, show e + (j : Int) = -1074 by omega] at h3
  rw [h3] at h2
  have h4 := told 1 (k - j) (by decide)
  rw [Nat.one_mul] at h4
  rw [V_exact _ h4] at h2
  exact h2
/-- A number divided by a power of two: near, with half a last place besides. -/
theorem scale_low (a e : Int) (ha : mag a < 9218868437227405312) (e0 : -1074 ≤ e) (e1 : e ≤ 1023) (hV : V (mag a) ≤ 2 ^ (e + 1075).toNat) :
    mag (scaleS a (-e)).1 < 9218868437227405312 ∧ V (mag (scaleS a (-e)).1) ≤ 2 ^ (uu + 1) ∧
    V (mag (scaleS a (-e)).1) * 2 ^ nj * 9007199254740992 ≤ V (mag a) * 2 ^ (nj - e).toNat * 9007199254740992 + (V (mag a) * 2 ^ (nj - e).toNat + 2 ^ nj * 4503599627370496) ∧
    V (mag a) * 2 ^ (nj - e).toNat * 9007199254740992 ≤ V (mag (scaleS a (-e)).1) * 2 ^ nj * 9007199254740992 + (V (mag a) * 2 ^ (nj - e).toNat + 2 ^ nj * 4503599627370496) := by
  have hu := uu_is
  have hj := nj_is
  obtain ⟨f1, f2⟩ := fin_facts a ha
  by_cases hz : mag a = 0
  · have e1 : scaleS a (-e) = (a, 0) := by
      unfold scaleS
      rw [f1, f2, if_neg (by decide), if_pos (by rw [Bool.or_eq_true]; exact .inr ((z_iff a).2 hz))]
    rw [e1]
    show mag a < _ ∧ V (mag a) ≤ _ ∧ V (mag a) * _ * _ ≤ _ ∧ _ ≤ V (mag a) * _ * _ + _
    rw [hz, V_zero, Nat.zero_mul, Nat.zero_mul, Nat.zero_mul, Nat.zero_mul]
    exact ⟨by decide, Nat.zero_le _, Nat.zero_le _, Nat.zero_le _⟩
  · have e1 : scaleS a (-e) = (sgnB (sgn a) + ((numP (V (mag a)) (-e - 1074) : Nat) : Int), ((flagP (V (mag a)) (-e - 1074) : Nat) : Int)) := by
      unfold scaleS
      rw [f1, f2, if_neg (by decide), if_neg (by rw [Bool.or_eq_true, z_iff]; rintro (h | h); exact absurd h (by decide); exact hz h)]
    rw [e1]
    have n1 := numP_scale (V (mag a)) (-1074 - (nj : Int)) (nj - e).toNat
    have n2 := flagP_scale (V (mag a)) (-1074 - (nj : Int)) (nj - e).toNat
    rw [show -1074 - (nj : Int) + ((nj - e).toNat : Int) = -e - 1074 by omega] at n1 n2
    have hB : V (mag a) * 2 ^ (nj - e).toNat ≤ 2 ^ (uu + 1 + nj) := by
      refine Nat.le_trans (Nat.mul_le_mul_right _ hV) ?_
      rw [← Nat.pow_add]
      exact Nat.pow_le_pow_right (by decide) (by omega)
    have hfl := flag_pow _ (-1074 - (nj : Int)) _ hB (by omega)
    obtain ⟨g1, g2, g3⟩ := err_low _ nj (-1074 - (nj : Int)) rfl hfl
    obtain ⟨p1, p2⟩ := num_pat _ _ hfl
    have hVb := V_le_pow _ nj (uu + 1 + nj) (-1074 - (nj : Int)) rfl (by omega) hB
    rw [← p1, n1, show uu + 1 + nj - nj = uu + 1 by omega] at hVb
    rw [n1] at g1 g2 g3
    have hm : mag (sgnB (sgn a) + ((numP (V (mag a)) (-e - 1074) : Nat) : Int)) = numP (V (mag a)) (-e - 1074) := (sgn_mag _ _ (by omega)).1
    show mag (sgnB (sgn a) + ((numP (V (mag a)) (-e - 1074) : Nat) : Int)) < _ ∧ V (mag (sgnB (sgn a) + ((numP (V (mag a)) (-e - 1074) : Nat) : Int))) ≤ _ ∧ V (mag (sgnB (sgn a) + ((numP (V (mag a)) (-e - 1074) : Nat) : Int))) * _ * _ ≤ _ ∧ _ ≤ V (mag (sgnB (sgn a) + ((numP (V (mag a)) (-e - 1074) : Nat) : Int))) * _ * _ + _
    rw [hm, ← Nat.add_assoc, ← Nat.add_assoc]
    exact ⟨g1, hVb, g2, g3⟩
/-- Squares of near numbers. -/
theorem sq_err (U B y h : Nat) (hU : 1 ≤ U) (h1 : y * U ≤ B * U + (B + h)) (h2 : B * U ≤ y * U + (B + h)) : y * y * U ≤ B * B * U + (B + h) * (3 * B + h) ∧ B * B * U ≤ y * y * U + (B + h) * (3 * B + h) := by
  have hy : y ≤ 2 * B + h := by
    refine Nat.le_of_mul_le_mul_right (Nat.le_trans h1 ?_) hU
    rw [show 2 * B + h = B + (B + h) by omega, Nat.add_mul B (B + h) U]
    exact Nat.add_le_add_left (Nat.le_mul_of_pos_right _ hU) _
  rcases Nat.le_total B y with g | g
  · obtain ⟨d, rfl⟩ : ∃ d, y = B + d := ⟨y - B, by omega⟩
    have hd : d * U ≤ B + h := by rw [Nat.add_mul] at h1; omega
    have e : (B + d) * (B + d) * U = B * B * U + d * U * (2 * B + d) := by
      rw [Nat.add_mul B d, Nat.mul_add, Nat.mul_add, show d * U * (2 * B + d) = (B * d + (d * B + d * d)) * U by
        rw [Nat.mul_comm d U, Nat.mul_assoc, Nat.mul_comm _ U, Nat.mul_add, Nat.mul_comm B d, ← Nat.add_assoc (d * B), show d * (2 * B) = d * B + d * B by rw [← Nat.mul_assoc, Nat.mul_comm d 2, Nat.mul_assoc]; omega], ← Nat.add_mul, Nat.add_assoc]
    have k : d * U * (2 * B + d) ≤ (B + h) * (3 * B + h) := Nat.mul_le_mul hd (by omega)
    rw [e]
    constructor
    · omega
    · omega
  · obtain ⟨d, rfl⟩ : ∃ d, B = y + d := ⟨B - y, by omega⟩
    have hd : d * U ≤ y + d + h := by rw [Nat.add_mul] at h2; omega
    have e : (y + d) * (y + d) * U = y * y * U + d * U * (2 * y + d) := by
      rw [Nat.add_mul y d, Nat.mul_add, Nat.mul_add, show d * U * (2 * y + d) = (y * d + (d * y + d * d)) * U by
        rw [Nat.mul_comm d U, Nat.mul_assoc, Nat.mul_comm _ U, Nat.mul_add, Nat.mul_comm y d, ← Nat.add_assoc (d * y), show d * (2 * y) = d * y + d * y by rw [← Nat.mul_assoc, Nat.mul_comm d 2, Nat.mul_assoc]; omega], ← Nat.add_mul, Nat.add_assoc]
    have k : d * U * (2 * y + d) ≤ (y + d + h) * (3 * (y + d) + h) := Nat.mul_le_mul hd (by omega)
    rw [e]
    constructor
    · omega
    · omega
end Go.Proofs.Ytpakpgjbgehhjaa

/-
  A sum of squares of numbers from -2 to 2, reckoned one behind the other, against the sum of squares of what they were before they were divided. Conditions: at most 1000 numbers, one of them 1 at least.
-/
namespace Go.Proofs.Ytpakpgjbgehhjaa
set_option linter.unusedVariables false
set_option linter.unusedSimpArgs false

/-- The square of a number of at most 2. -/
theorem sq_prod (a : Int) (ha : mag a < 9218868437227405312) (hV : V (mag a) ≤ 2 ^ (uu + 1)) :
    (mulS a a).2 < 4 ∧ mag (mulS a a).1 < 9218868437227405312 ∧ V (mag (mulS a a).1) ≤ 2 ^ (uu + 2) ∧ (sv (mulS a a).1 * ((2 ^ uu : Nat) : Int) - sv a * sv a).natAbs * 9007199254740992 ≤ (sv a * sv a).natAbs + 2 ^ uu * 4503599627370496 := by
  have hu := uu_is
  have hB : V (mag a) * V (mag a) ≤ 2 ^ (uu + 2 + uu) := by
    refine Nat.le_trans (Nat.mul_le_mul hV hV) ?_
    rw [← Nat.pow_add]
    exact Nat.pow_le_pow_right (by decide) (by omega)
  have hfl := flag_pow _ (-2148) _ hB (by omega)
  have h2 : (mulS a a).2 < 4 := by rw [mulS_fin a a ha ha]; show ((flagP _ _ : Nat) : Int) < 4; omega
  obtain ⟨g1, g2⟩ := mul_low a a ha ha h2
  refine ⟨h2, g1, ?_, g2⟩
  have hVb := V_le_pow _ uu (uu + 2 + uu) (-2148) (by omega) (by omega) hB
  obtain ⟨p1, p2⟩ := num_pat _ _ hfl
  rw [← p1, show uu + 2 + uu - uu = uu + 2 by omega] at hVb
  rw [mulS_fin a a ha ha]
  show V (mag (sgnB _ + ((numP _ _ : Nat) : Int))) ≤ _
  rw [(sgn_mag _ _ (by rw [p1]; omega)).1]
  exact hVb
theorem sq_abs (u : Int) : (sv u * sv u).natAbs = V (mag u) * V (mag u) := by rw [Int.natAbs_mul, sv_abs]
theorem sq_int (u : Int) : sv u * sv u = ((V (mag u) * V (mag u) : Nat) : Int) := by rw [← sq_abs]; exact (Int.natAbs_mul_self' _ |> fun h => by rw [Int.natAbs_mul]; push_cast; exact h.symm)
theorem absP_le (u : Nat → Int) (n : Nat) (hV : ∀ i, i < n → V (mag (u i)) ≤ 2 ^ (uu + 1)) : absP u u n ≤ n * (2 ^ (uu + 2) * 2 ^ uu) := by
  induction n with
  | zero => simp [absP]
  | succ n ih =>
    have := ih (fun i hi => hV i (by omega))
    have h1 := Nat.mul_le_mul (hV n (by omega)) (hV n (by omega))
    rw [← Nat.pow_add, show uu + 1 + (uu + 1) = uu + 2 + uu by omega, Nat.pow_add] at h1
    unfold absP
    rw [sq_abs, Nat.add_mul, Nat.one_mul]
    omega
/-- Sums and squares are not too great. -/
theorem sq_sum (u : Nat → Int) : ∀ n, n ≤ 1000 → (∀ i, i < n → mag (u i) < 9218868437227405312) → (∀ i, i < n → V (mag (u i)) ≤ 2 ^ (uu + 1)) →
    mag (dotV u u n) < 9218868437227405312 ∧ (n = 0 ∨ (sv (dotV u u n) * ((2 ^ uu : Nat) : Int) - sumP u u n).natAbs * 9007199254740992 ≤ (2 * n - 1) * absP u u n + 3 * n * (2 ^ uu * 4503599627370496)) ∧ ∀ i, i < n → (addS (dotV u u i) (mulS (u i) (u i)).1).2 < 4
  | 0, _, _, _ => ⟨by show mag 0 < _; decide, .inl rfl, fun i hi => absurd hi (Nat.not_lt_zero _)⟩
  | k + 1, hn, hf, hV => by
    have hu := uu_is
    obtain ⟨j1, j2, j3⟩ := sq_sum u k (by omega) (fun i hi => hf i (by omega)) (fun i hi => hV i (by omega))
    have hP := sq_prod (u k) (hf k (by omega)) (hV k (by omega))
    have hd : (sv (dotV u u k)).natAbs ≤ 2 ^ (uu + 14) := by
      rcases j2 with rfl | j2
      · show (sv 0).natAbs ≤ _
        rw [sv_zero 0 (by decide)]
        exact Nat.zero_le _
      · have ha := absP_le u k (fun i hi => hV i (by omega))
        have hs := sum_abs u u k
        have a1 : (sv (dotV u u k) * ((2 ^ uu : Nat) : Int) - sumP u u k).natAbs ≤ absP u u k + 2 ^ uu * 4503599627370496 := by
          refine Nat.le_of_mul_le_mul_right (Nat.le_trans j2 ?_) (show 0 < 9007199254740992 by decide)
          rw [Nat.add_mul, Nat.mul_comm (absP u u k), Nat.mul_comm (2 ^ uu * 4503599627370496)]
          exact Nat.add_le_add (Nat.mul_le_mul_right _ (by omega)) (Nat.mul_le_mul_right _ (by omega))
        have a2 : (sv (dotV u u k) * ((2 ^ uu : Nat) : Int)).natAbs ≤ 2 * absP u u k + 2 ^ uu * 4503599627370496 := by omega
        rw [Int.natAbs_mul, Int.natAbs_natCast] at a2
        refine Nat.le_of_mul_le_mul_right (Nat.le_trans a2 ?_) (Nat.two_pow_pos uu)
        have b1 : 2 * absP u u k ≤ 2 ^ (uu + 13) * 2 ^ uu := by
          have : 2 * absP u u k ≤ 2048 * (2 ^ (uu + 2) * 2 ^ uu) := by
            have := Nat.mul_le_mul_right (2 ^ (uu + 2) * 2 ^ uu) (show k ≤ 1024 by omega)
            omega
          refine Nat.le_trans this ?_
          rw [show (2048 : Nat) = 2 ^ 11 by decide, ← Nat.mul_assoc, ← Nat.pow_add, show 11 + (uu + 2) = uu + 13 by omega]
          exact Nat.le_refl _
        have b2 : 2 ^ uu * 4503599627370496 ≤ 2 ^ (uu + 13) * 2 ^ uu := by
          rw [Nat.mul_comm, show (4503599627370496 : Nat) = 2 ^ 52 by decide]
          exact Nat.mul_le_mul_right _ (Nat.pow_le_pow_right (by decide) (by omega))
        rw [show uu + 14 = uu + 13 + 1 by omega, Nat.pow_succ (n := 2) (m := uu + 13), Nat.mul_comm (2 ^ (uu + 13)) 2, Nat.mul_assoc, Nat.two_mul (2 ^ (uu + 13) * 2 ^ uu)]
        exact Nat.add_le_add b1 b2
    have hA : ∀ i, i < k + 1 → (addS (dotV u u i) (mulS (u i) (u i)).1).2 < 4 := by
      intro i hi
      by_cases hik : i = k
      · subst hik
        rw [addS_fin _ _ j1 hP.2.1]
        split
        · exact (by decide : (0 : Int) < 4)
        · have hsum : (sv (dotV u u i) + sv (mulS (u i) (u i)).1).natAbs ≤ 2 ^ (uu + 15) := by
            have h1 : (sv (mulS (u i) (u i)).1).natAbs ≤ 2 ^ (uu + 14) := by rw [sv_abs]; exact Nat.le_trans hP.2.2.1 (Nat.pow_le_pow_right (by decide) (by omega))
            rw [show uu + 15 = uu + 14 + 1 by omega, Nat.pow_succ]
            omega
          have := flag_pow _ (-1074) _ hsum (by omega)
          show ((flagP _ _ : Nat) : Int) < 4
          omega
      · exact j3 i (by omega)
    obtain ⟨g1, g2⟩ := dot_gen u u (2 ^ uu * 4503599627370496) (k + 1) (by omega) (fun i hi => let h := sq_prod (u i) (hf i hi) (hV i hi); ⟨h.2.1, h.2.2.2⟩) hA
    exact ⟨g1, g2, hA⟩
/-- The sum of squares. -/
def sqs (f : Nat → Nat) : Nat → Nat
  | 0 => 0
  | k + 1 => sqs f k + f k * f k
theorem sqs_ge (f : Nat → Nat) (n i : Nat) (h : i < n) : f i * f i ≤ sqs f n := by
  induction n with
  | zero => omega
  | succ n ih =>
    unfold sqs
    by_cases g : i = n
    · subst g; omega
    · have := ih (by omega); omega
theorem sqs_scale (f : Nat → Nat) (c n : Nat) : sqs (fun i => f i * c) n = sqs f n * (c * c) := by
  induction n with
  | zero => simp [sqs]
  | succ n ih =>
    unfold sqs
    rw [ih, Nat.add_mul, show f n * c * (f n * c) = f n * f n * (c * c) by rw [Nat.mul_assoc, Nat.mul_left_comm c, ← Nat.mul_assoc]]
theorem absP_sqs (u : Nat → Int) (n : Nat) : absP u u n = sqs (fun i => V (mag (u i))) n ∧ sumP u u n = ((sqs (fun i => V (mag (u i))) n : Nat) : Int) := by
  induction n with
  | zero => exact ⟨rfl, rfl⟩
  | succ n ih =>
    unfold absP sumP sqs
    rw [ih.1, ih.2, sq_abs, sq_int]
    exact ⟨rfl, by push_cast; rfl⟩
/-- Near numbers, each with h besides, of at most b: their sums of squares. -/
theorem sqs_err (U b h : Nat) (B y : Nat → Nat) (hU : 1 ≤ U) : ∀ n, (∀ i, i < n → B i ≤ b) → (∀ i, i < n → y i * U ≤ B i * U + (B i + h) ∧ B i * U ≤ y i * U + (B i + h)) →
    sqs y n * U ≤ sqs B n * U + (3 * sqs B n + n * (4 * b * h + h * h)) ∧ sqs B n * U ≤ sqs y n * U + (3 * sqs B n + n * (4 * b * h + h * h))
  | 0, _, _ => by simp [sqs]
  | k + 1, hb, hy => by
    obtain ⟨i1, i2⟩ := sqs_err U b h B y hU k (fun i hi => hb i (by omega)) (fun i hi => hy i (by omega))
    obtain ⟨s1, s2⟩ := sq_err U (B k) (y k) h hU (hy k (by omega)).1 (hy k (by omega)).2
    have e : (B k + h) * (3 * B k + h) ≤ 3 * (B k * B k) + (4 * b * h + h * h) := by
      have e1 : (B k + h) * (3 * B k + h) = 3 * (B k * B k) + (4 * (B k * h) + h * h) := by
        rw [Nat.add_mul, Nat.mul_add, Nat.mul_add, Nat.mul_left_comm (B k) 3, Nat.mul_left_comm h 3, Nat.mul_comm h (B k)]
        omega
      have e2 : B k * h ≤ b * h := Nat.mul_le_mul_right _ (hb k (by omega))
      rw [e1, Nat.mul_assoc 4 b h]
      omega
    unfold sqs
    rw [Nat.add_mul, Nat.add_mul, Nat.add_mul k 1]
    generalize B k * B k * U = p1 at *
    generalize y k * y k * U = p2 at *
    generalize sqs B k * U = p3 at *
    generalize sqs y k * U = p4 at *
    generalize (B k + h) * (3 * B k + h) = p5 at *
    generalize 4 * b * h + h * h = p6 at *
    generalize k * p6 = p7 at *
    omega
end Go.Proofs.Ytpakpgjbgehhjaa

/-
  How far a root of a sum of squares, reckoned as layer 10 says, lies from the exact one: within (n + 4) 2^-53. Conditions: at most 1000 finite numbers, not all nought; what is scaled back is neither too great nor too small.
-/
namespace Go.Proofs.Ytpakpgjbgehhjaa
set_option linter.unusedVariables false
set_option linter.unusedSimpArgs false

theorem tiny_a (n z w T : Nat) (hn : n ≤ 1000) (hz : 20282409603651670423947251286016 ≤ z) (hT : z * z * w ≤ T) : 4 * (3 * n * (z * 4503599627370496) * w) ≤ T := by
  refine Nat.le_trans ?_ hT
  rw [← Nat.mul_assoc 4]
  refine Nat.mul_le_mul_right w ?_
  rw [← Nat.mul_assoc 4, show 4 * (3 * n) * (z * 4503599627370496) = (4 * (3 * n) * 4503599627370496) * z by simp only [Nat.mul_comm, Nat.mul_left_comm, Nat.mul_assoc]]
  exact Nat.mul_le_mul_right z (by omega)
theorem tiny_b (n z J T : Nat) (hn : n ≤ 1000) (hz : 20282409603651670423947251286016 ≤ z) (hT : z * z * (J * J) ≤ T) : 4 * (n * (4 * (2 * z * J) * (J * 4503599627370496) + J * 4503599627370496 * (J * 4503599627370496))) ≤ T := by
  refine Nat.le_trans ?_ hT
  have e1 : 4 * (2 * z * J) * (J * 4503599627370496) = 36028797018963968 * z * (J * J) := by
    rw [show 4 * (2 * z * J) * (J * 4503599627370496) = 4 * (2 * (4503599627370496 * (z * (J * J)))) by simp only [Nat.mul_comm, Nat.mul_left_comm, Nat.mul_assoc]]
    rw [Nat.mul_assoc 36028797018963968]
    generalize z * (J * J) = q
    omega
  have e2 : J * 4503599627370496 * (J * 4503599627370496) = 20282409603651670423947251286016 * (J * J) := by
    rw [show J * 4503599627370496 * (J * 4503599627370496) = 4503599627370496 * (4503599627370496 * (J * J)) by simp only [Nat.mul_comm, Nat.mul_left_comm, Nat.mul_assoc]]
    generalize J * J = q
    omega
  rw [e1, e2, ← Nat.add_mul, ← Nat.mul_assoc n, ← Nat.mul_assoc 4]
  refine Nat.mul_le_mul_right _ ?_
  have h1 : 36028797018963968 * z + 20282409603651670423947251286016 ≤ 36028797018963969 * z := by omega
  refine Nat.le_trans (Nat.mul_le_mul_left 4 (Nat.mul_le_mul hn h1)) ?_
  rw [← Nat.mul_assoc, ← Nat.mul_assoc]
  exact Nat.mul_le_mul_right z (by omega)
theorem four_t (T y : Nat) (h : 4 * y ≤ T) : 3 * T + y ≤ 4 * T := by omega
theorem fin_lin (TU T y1 y2 mQ mT Ew QU DU : Nat) (q1 : QU ≤ TU + (3 * T + y2)) (q2 : TU ≤ QU + (3 * T + y2)) (t1 : 4 * y1 ≤ T) (t2 : 4 * y2 ≤ T) (c1 : DU ≤ QU + Ew) (c2 : QU ≤ DU + Ew) (c3 : Ew ≤ mQ + y1) (c4 : 2 * mQ ≤ 2 * mT + T) : DU ≤ TU + (mT + 4 * T) ∧ TU ≤ DU + (mT + 4 * T) := by omega
theorem sum_chain (n z J a T : Nat) (D : Int) (n1 : 1 ≤ n) (hn : n ≤ 1000) (hJ : 0 < J) (hz : 20282409603651670423947251286016 ≤ z) (hT : z * z * (J * J) ≤ T)
    (q1 : a * (J * J) * 9007199254740992 ≤ T * 9007199254740992 + (3 * T + n * (4 * (2 * z * J) * (J * 4503599627370496) + J * 4503599627370496 * (J * 4503599627370496))))
    (q2 : T * 9007199254740992 ≤ a * (J * J) * 9007199254740992 + (3 * T + n * (4 * (2 * z * J) * (J * 4503599627370496) + J * 4503599627370496 * (J * 4503599627370496))))
    (hD : (D - (a : Int)).natAbs * 9007199254740992 ≤ (2 * n - 1) * a + 3 * n * (z * 4503599627370496)) :
    0 < D ∧ D.toNat * (J * J) * 9007199254740992 ≤ T * 9007199254740992 + (2 * n + 3) * T ∧ T * 9007199254740992 ≤ D.toNat * (J * J) * 9007199254740992 + (2 * n + 3) * T := by
  have t1 := tiny_a n z (J * J) T hn hz hT
  have t2 := tiny_b n z J T hn hz hT
  have hw : 0 < J * J := Nat.mul_pos hJ hJ
  generalize n * (4 * (2 * z * J) * (J * 4503599627370496) + J * 4503599627370496 * (J * 4503599627370496)) = y2 at *
  generalize hw2 : J * J = w at *
  have hTp : 0 < T := Nat.lt_of_lt_of_le (Nat.mul_pos (Nat.mul_pos (by omega) (by omega)) hw) hT
  have ha1 : T ≤ 2 * (a * w) := by
    generalize a * w = Q at *
    omega
  have ha2 : 2 * (3 * n * (z * 4503599627370496)) ≤ a := by
    refine Nat.le_of_mul_le_mul_right ?_ hw
    rw [Nat.mul_assoc 2]
    generalize 3 * n * (z * 4503599627370496) * w = y1 at *
    generalize a * w = Q at *
    omega
  have hap : 0 < a := by
    refine Nat.pos_of_ne_zero fun h => ?_
    rw [h, Nat.zero_mul] at ha1
    omega
  -- the bound of D, and its sign
  generalize hm : 2 * n - 1 = m at *
  have hm1 : m ≤ 2000 := by omega
  have hE : (D - (a : Int)).natAbs * 9007199254740992 ≤ (m + 1) * a := by
    refine Nat.le_trans hD ?_
    rw [Nat.add_mul, Nat.one_mul]
    generalize 3 * n * (z * 4503599627370496) = y1 at *
    omega
  have hD0 : 0 < D := by
    refine Int.lt_of_not_ge fun g => ?_
    have h1 : a ≤ (D - (a : Int)).natAbs := by omega
    have h2 := Nat.le_trans (Nat.mul_le_mul_right 9007199254740992 h1) hE
    rw [Nat.mul_comm a] at h2
    have := Nat.le_of_mul_le_mul_right h2 hap
    omega
  refine ⟨hD0, ?_⟩
  obtain ⟨d, rfl⟩ : ∃ d : Nat, D = (d : Int) := ⟨D.toNat, by omega⟩
  rw [Int.toNat_natCast]
  generalize hEE : ((d : Int) - (a : Int)).natAbs = E at *
  have b1 : d ≤ a + E := by omega
  have b2 : a ≤ d + E := by omega
  -- times w
  have c1 := Nat.mul_le_mul_right (w * 9007199254740992) b1
  have c2 := Nat.mul_le_mul_right (w * 9007199254740992) b2
  have c3 := Nat.mul_le_mul_right w hD
  have e1 : E * 9007199254740992 * w = E * (w * 9007199254740992) := by rw [Nat.mul_assoc, Nat.mul_comm 9007199254740992]
  rw [Nat.add_mul, ← Nat.mul_assoc, ← Nat.mul_assoc] at c1 c2
  rw [e1, Nat.add_mul] at c3
  have c4 : 2 * (m * (a * w)) ≤ 2 * (m * T) + T := by
    have k1 : a * w * 9007199254740992 ≤ T * 9007199254740992 + 4 * T := Nat.le_trans q1 (Nat.add_le_add_left (four_t T y2 t2) _)
    refine Nat.le_of_mul_le_mul_right ?_ (show 0 < 9007199254740992 by decide)
    have k2 := Nat.mul_le_mul_left (2 * m) k1
    rw [Nat.mul_add] at k2
    have k3 : 2 * m * (4 * T) ≤ T * 9007199254740992 := by
      rw [← Nat.mul_assoc, Nat.mul_comm T]
      exact Nat.mul_le_mul_right T (by omega)
    rw [show 2 * (m * (a * w)) * 9007199254740992 = 2 * m * (a * w * 9007199254740992) by rw [← Nat.mul_assoc, Nat.mul_assoc], Nat.add_mul, show 2 * (m * T) * 9007199254740992 = 2 * m * (T * 9007199254740992) by rw [← Nat.mul_assoc, Nat.mul_assoc]]
    omega
  have e2 : (2 * n + 3) * T = m * T + 4 * T := by rw [show 2 * n + 3 = m + 4 by omega, Nat.add_mul]
  have e3 : m * a * w = m * (a * w) := Nat.mul_assoc _ _ _
  rw [e3] at c3
  rw [e2]
  exact fin_lin _ _ _ _ _ _ _ _ _ q1 q2 t1 t2 c1 c2 c3 c4
/-- The sum of squares of numbers divided by 2^e, against the exact one. -/
theorem norm_sum (X : Nat → Int) (e : Int) (n : Nat) (hn : n ≤ 1000) (fx : ∀ i, i < n → mag (X i) < 9218868437227405312) (e0 : -1074 ≤ e) (e1 : e ≤ 1023) (hle : ∀ i, i < n → V (mag (X i)) ≤ 2 ^ (e + 1075).toNat) (hmax : ∃ i, i < n ∧ 2 ^ (e + 1074).toNat ≤ V (mag (X i))) :
    mag (dotV (fun i => (scaleS (X i) (-e)).1) (fun i => (scaleS (X i) (-e)).1) n) < 9218868437227405312 ∧ 0 < sv (dotV (fun i => (scaleS (X i) (-e)).1) (fun i => (scaleS (X i) (-e)).1) n) ∧
    (sv (dotV (fun i => (scaleS (X i) (-e)).1) (fun i => (scaleS (X i) (-e)).1) n)).toNat * 2 ^ uu * (2 ^ nj * 2 ^ nj) * 9007199254740992 ≤ sqs (fun i => V (mag (X i)) * 2 ^ (nj - e).toNat) n * 9007199254740992 + (2 * n + 3) * sqs (fun i => V (mag (X i)) * 2 ^ (nj - e).toNat) n ∧
    sqs (fun i => V (mag (X i)) * 2 ^ (nj - e).toNat) n * 9007199254740992 ≤ (sv (dotV (fun i => (scaleS (X i) (-e)).1) (fun i => (scaleS (X i) (-e)).1) n)).toNat * 2 ^ uu * (2 ^ nj * 2 ^ nj) * 9007199254740992 + (2 * n + 3) * sqs (fun i => V (mag (X i)) * 2 ^ (nj - e).toNat) n := by
  have hu := uu_is
  have hj := nj_is
  obtain ⟨i0, hi0, hm0⟩ := hmax
  have hL := fun i hi => scale_low (X i) e (fx i hi) e0 e1 (hle i hi)
  generalize hu' : (fun i => (scaleS (X i) (-e)).1) = u at *
  have hui : ∀ i, (scaleS (X i) (-e)).1 = u i := fun i => by rw [← hu']
  simp only [hui] at hL
  obtain ⟨s1, s2, _⟩ := sq_sum u n hn (fun i hi => (hL i hi).1) (fun i hi => (hL i hi).2.1)
  have s2 := s2.resolve_left (by omega)
  obtain ⟨a1, a2⟩ := absP_sqs u n
  rw [a1, a2] at s2
  have hb : ∀ i, i < n → V (mag (X i)) * 2 ^ (nj - e).toNat ≤ 2 * 2 ^ uu * 2 ^ nj := by
    intro i hi
    refine Nat.le_trans (Nat.mul_le_mul_right _ (hle i hi)) ?_
    rw [← Nat.pow_add, Nat.mul_comm 2 (2 ^ uu), ← Nat.pow_succ, ← Nat.pow_add]
    exact Nat.pow_le_pow_right (by decide) (by omega)
  obtain ⟨q1, q2⟩ := sqs_err 9007199254740992 (2 * 2 ^ uu * 2 ^ nj) (2 ^ nj * 4503599627370496) (fun i => V (mag (X i)) * 2 ^ (nj - e).toNat) (fun i => V (mag (u i)) * 2 ^ nj) (by decide) n hb (fun i hi => ⟨(hL i hi).2.2.1, (hL i hi).2.2.2⟩)
  rw [sqs_scale (fun i => V (mag (u i)))] at q1 q2
  have hT : 2 ^ uu * 2 ^ uu * (2 ^ nj * 2 ^ nj) ≤ sqs (fun i => V (mag (X i)) * 2 ^ (nj - e).toNat) n := by
    refine Nat.le_trans ?_ (sqs_ge (fun i => V (mag (X i)) * 2 ^ (nj - e).toNat) n i0 hi0)
    have h1 : 2 ^ uu * 2 ^ nj ≤ V (mag (X i0)) * 2 ^ (nj - e).toNat := by
      refine Nat.le_trans ?_ (Nat.mul_le_mul_right _ hm0)
      rw [← Nat.pow_add, ← Nat.pow_add]
      exact Nat.pow_le_pow_right (by decide) (by omega)
    have := Nat.mul_le_mul h1 h1
    rw [show 2 ^ uu * 2 ^ nj * (2 ^ uu * 2 ^ nj) = 2 ^ uu * 2 ^ uu * (2 ^ nj * 2 ^ nj) by rw [Nat.mul_assoc, Nat.mul_left_comm (2 ^ nj), ← Nat.mul_assoc]] at this
    exact this
  have hz : 20282409603651670423947251286016 ≤ 2 ^ uu := by
    rw [show (20282409603651670423947251286016 : Nat) = 2 ^ 104 by decide]
    exact Nat.pow_le_pow_right (by decide) (by omega)
  obtain ⟨g1, g2, g3⟩ := sum_chain n (2 ^ uu) (2 ^ nj) (sqs (fun i => V (mag (u i))) n) (sqs (fun i => V (mag (X i)) * 2 ^ (nj - e).toNat) n) (sv (dotV u u n) * ((2 ^ uu : Nat) : Int)) (by omega) hn (Nat.two_pow_pos _) hz hT q1 q2 s2
  have hpos : 0 < sv (dotV u u n) := by
    refine Int.lt_of_not_ge fun g => ?_
    have := Int.mul_nonpos_of_nonpos_of_nonneg g (Int.natCast_nonneg (2 ^ uu))
    omega
  have hd : (sv (dotV u u n) * ((2 ^ uu : Nat) : Int)).toNat = (sv (dotV u u n)).toNat * 2 ^ uu := by
    obtain ⟨d, hd⟩ : ∃ d : Nat, sv (dotV u u n) = (d : Int) := ⟨(sv (dotV u u n)).toNat, by omega⟩
    rw [hd, ← Int.natCast_mul, Int.toNat_natCast, Int.toNat_natCast]
  rw [hd] at g2 g3
  exact ⟨s1, hpos, g2, g3⟩
end Go.Proofs.Ytpakpgjbgehhjaa

/-
  How far a root of a sum of squares, reckoned as layer 10 says, lies from the exact one: within (n + 4) 2^-53 (P10.3). Conditions: at most 1000 finite numbers, not all nought; what is scaled back is neither too great nor too small.
-/
namespace Go.Proofs.Ytpakpgjbgehhjaa
set_option linter.unusedVariables false
set_option linter.unusedSimpArgs false

def hh : Nat := 435
theorem hh_is : (hh : Int) = 435 := rfl
theorem root_num (v : Nat) : rootN v = numP ((isq (v * 2 ^ ww) * 2 ^ 2 + (decide (isq (v * 2 ^ ww) * isq (v * 2 ^ ww) ≠ v * 2 ^ ww)).toNat) * 2 ^ hh) (-1074) := by
  have hh' := hh_is
  rw [numP_scale, show -1074 + (hh : Int) = -637 - (2 : Nat) by omega]
  rfl
/-- The whole root with its bit more, squared, against the number: within 1 in K. -/
theorem root_sq (w z c K : Nat) (b : Bool) (hb : b = decide (z * z ≠ w)) (h1 : z * z ≤ w) (h2 : w < (z + 1) * (z + 1)) (hK : 2 * K ≤ z) (hK1 : 1 ≤ K) :
    (z * 2 ^ 2 + b.toNat) * c * ((z * 2 ^ 2 + b.toNat) * c) * K ≤ w * 16 * (c * c) * (K + 1) ∧ w * 16 * (c * c) * K ≤ (z * 2 ^ 2 + b.toNat) * c * ((z * 2 ^ 2 + b.toNat) * c) * K + w * 16 * (c * c) := by
  have e0 : ∀ x : Nat, x * c * (x * c) * K = x * x * K * (c * c) := fun x => by simp only [Nat.mul_comm, Nat.mul_left_comm, Nat.mul_assoc]
  have e1 : w * 16 * (c * c) * (K + 1) = w * 16 * (K + 1) * (c * c) := by rw [Nat.mul_assoc, Nat.mul_comm (c * c), ← Nat.mul_assoc]
  have e2 : w * 16 * (c * c) * K = w * 16 * K * (c * c) := by rw [Nat.mul_assoc, Nat.mul_comm (c * c), ← Nat.mul_assoc]
  rw [e0, e1, e2, ← Nat.add_mul]
  have key : (z * 2 ^ 2 + b.toNat) * (z * 2 ^ 2 + b.toNat) * K ≤ w * 16 * (K + 1) ∧ w * 16 * K ≤ (z * 2 ^ 2 + b.toNat) * (z * 2 ^ 2 + b.toNat) * K + w * 16 := by
    by_cases g : z * z = w
    · rw [hb, decide_eq_false (by simpa using g)]
      rw [show (z * 2 ^ 2 + false.toNat) * (z * 2 ^ 2 + false.toNat) = z * z * 16 by
        show (z * 4 + 0) * (z * 4 + 0) = _
        rw [Nat.add_zero, Nat.mul_assoc, Nat.mul_left_comm 4, ← Nat.mul_assoc], g]
      rw [Nat.mul_add, Nat.mul_one]
      omega
    · rw [hb, decide_eq_true g]
      have e3 : (z * 2 ^ 2 + true.toNat) * (z * 2 ^ 2 + true.toNat) = z * z * 16 + (8 * z + 1) := by
        show (z * 4 + 1) * (z * 4 + 1) = _
        rw [Nat.mul_add, Nat.add_mul, Nat.mul_one, Nat.one_mul, show z * 4 * (z * 4) = z * z * 16 by rw [Nat.mul_assoc, Nat.mul_left_comm 4, ← Nat.mul_assoc]]
        omega
      have e4 : (z + 1) * (z + 1) = z * z + (2 * z + 1) := by rw [Nat.mul_add, Nat.add_mul, Nat.mul_one, Nat.one_mul]; omega
      rw [e4] at h2
      rw [e3, Nat.add_mul, Nat.add_mul, Nat.one_mul, Nat.mul_add, Nat.mul_one]
      have p1 : 2 * K * z ≤ z * z := Nat.mul_le_mul_right z hK
      have p2 : K ≤ z * K := Nat.le_mul_of_pos_left _ (by omega)
      have p3 : 8 * z * K = 4 * (2 * K * z) := by rw [show 2 * K * z = 2 * (z * K) by rw [Nat.mul_assoc, Nat.mul_comm K], Nat.mul_assoc]; omega
      have p4 : 2 * K * z = 2 * (z * K) := by rw [Nat.mul_assoc, Nat.mul_comm K]
      have p5 : w * 16 * K = (w * K) * 16 := by rw [Nat.mul_assoc, Nat.mul_comm 16, ← Nat.mul_assoc]
      have p6 : z * z * 16 * K = (z * z * K) * 16 := by rw [Nat.mul_assoc, Nat.mul_comm 16, ← Nat.mul_assoc]
      have p7 : z * z * K ≤ w * K := Nat.mul_le_mul_right _ h1
      have p8 : w * K ≤ z * z * K + 2 * (z * K) := by
        have := Nat.mul_le_mul_right K (show w ≤ z * z + 2 * z by omega)
        rw [Nat.add_mul, Nat.mul_assoc 2] at this
        exact this
      rw [p3, p5, p6, p4]
      rw [p4] at p1
      generalize z * K = zK at *
      generalize w * K = wK at *
      generalize z * z * K = zzK at *
      generalize z * z = zz at *
      omega
  exact ⟨Nat.mul_le_mul_right _ key.1, Nat.mul_le_mul_right _ key.2⟩
theorem sq_le (z w t : Nat) (h1 : z * z ≤ w) (h2 : w ≤ t * t) : z ≤ t := by
  refine Nat.le_of_not_lt fun g => ?_
  have := Nat.mul_lt_mul'' g g
  exact absurd (Nat.lt_of_lt_of_le this (Nat.le_trans h1 h2)) (Nat.lt_irrefl _)
theorem sq_ge (z w t : Nat) (h1 : w < (z + 1) * (z + 1)) (h2 : t * t ≤ w) : t ≤ z := by
  refine Nat.le_of_not_lt fun g => ?_
  have := Nat.mul_le_mul g g
  exact absurd (Nat.lt_of_lt_of_le h1 this) (Nat.not_lt.2 h2)
theorem four_z (z t c : Nat) (h : z ≤ t) (hc : c ≤ 1) (ht : 1 ≤ t) : z * 4 + c ≤ t * 8 := by omega
theorem up1 (R Y U : Nat) (h : R * U ≤ Y * U + Y) : R * U ≤ Y * (U + 1) := by rw [Nat.mul_succ]; exact h
theorem low1 (R Y k : Nat) (h : Y * (k + 1) ≤ R * (k + 1) + Y) : Y * k ≤ R * (k + 1) := by
  rw [Nat.mul_succ Y k] at h
  exact Nat.le_of_add_le_add_right h
/-- The root of a number from 2^-1054 to 2^100: near a Y whose square is near the number. -/
theorem root_err (v : Nat) (h0 : 2 ^ 20 ≤ v) (h1 : v ≤ 2 ^ (uu + 100)) : ∃ Y : Nat, rootN v < 9218868437227405312 ∧ V (rootN v) * 9007199254740992 ≤ Y * 9007199254740993 ∧ Y * 9007199254740991 ≤ V (rootN v) * 9007199254740992 ∧
    Y * Y * 81129638414606681695789005144064 ≤ v * 2 ^ uu * 81129638414606681695789005144065 ∧ v * 2 ^ uu * 81129638414606681695789005144063 ≤ Y * Y * 81129638414606681695789005144064 := by
  have hu := uu_is
  have hw := ww_is
  have hH := hh_is
  obtain ⟨s1, s2⟩ := isq_spec (v * 2 ^ ww)
  have hr := root_num v
  generalize hz : isq (v * 2 ^ ww) = z at *
  generalize hb : decide (z * z ≠ v * 2 ^ ww) = b at *
  have zlo : 2 * 81129638414606681695789005144064 ≤ z := by
    rw [show 2 * 81129638414606681695789005144064 = 2 ^ 107 by decide]
    refine sq_ge z _ _ s2 (Nat.le_trans ?_ (Nat.mul_le_mul_right (2 ^ ww) h0))
    rw [← Nat.pow_add, ← Nat.pow_add]
    exact Nat.pow_le_pow_right (by decide) (by omega)
  have zhi : z ≤ 2 ^ (ww + 487) := by
    refine sq_le z _ _ s1 (Nat.le_trans (Nat.mul_le_mul_right (2 ^ ww) h1) ?_)
    rw [← Nat.pow_add, ← Nat.pow_add]
    exact Nat.pow_le_pow_right (by decide) (by omega)
  have hX : (z * 2 ^ 2 + b.toNat) * 2 ^ hh ≤ 2 ^ (ww + 490 + hh) := by
    rw [Nat.pow_add 2 (ww + 490) hh]
    refine Nat.mul_le_mul_right _ ?_
    have hbt : b.toNat ≤ 1 := by cases b <;> decide
    rw [show ww + 490 = ww + 487 + 3 from rfl, Nat.pow_add 2 (ww + 487) 3, show (2 : Nat) ^ 2 = 4 from rfl, show (2 : Nat) ^ 3 = 8 from rfl]
    exact four_z z _ _ zhi hbt (Nat.two_pow_pos _)
  have hfl := flag_1074 _ (flag_pow _ (-1074) _ hX (by omega))
  obtain ⟨g1, g2, g3⟩ := err_num _ 0 (-1074) (by omega) hfl
  rw [← hr, Nat.pow_zero, Nat.mul_one] at g2 g3
  rw [← hr] at g1
  have hsq := root_sq (v * 2 ^ ww) z (2 ^ hh) 81129638414606681695789005144064 b hb.symm s1 s2 zlo (by decide)
  have hW : v * 2 ^ ww * 16 * (2 ^ hh * 2 ^ hh) = v * 2 ^ uu := by
    rw [show (16 : Nat) = 2 ^ 4 by decide, Nat.mul_assoc v, Nat.mul_assoc v, ← Nat.pow_add, ← Nat.pow_add, ← Nat.pow_add, show ww + 4 + (hh + hh) = uu by omega]
  rw [hW] at hsq
  generalize (z * 2 ^ 2 + b.toNat) * 2 ^ hh = Y at *
  exact ⟨Y, g1, up1 _ _ _ g2, low1 _ _ 9007199254740991 g3, hsq.1, low1 (Y * Y) (v * 2 ^ uu) 81129638414606681695789005144063 hsq.2⟩
end Go.Proofs.Ytpakpgjbgehhjaa

/-
  P10.3: the root of a sum of squares, reckoned as layer 10 says, is within (n + 4) 2^-53 of the exact one. Conditions: at most 1000 finite numbers, the greatest from 2^e on and beneath 2^(e + 1); what is scaled back is neither too great nor too small.
-/
namespace Go.Proofs.Ytpakpgjbgehhjaa
set_option linter.unusedVariables false
set_option linter.unusedSimpArgs false

/-- A number times a power of two, neither too great nor too small: near. -/
theorem scale_near (a e : Int) (ha : mag a < 9218868437227405312) (e0 : -1100 ≤ e) (h : (scaleS a e).2 ≤ 1) :
    mag (scaleS a e).1 < 9218868437227405312 ∧ V (mag (scaleS a e).1) * 2 ^ nj * 9007199254740992 ≤ V (mag a) * 2 ^ (nj + e).toNat * 9007199254740992 + V (mag a) * 2 ^ (nj + e).toNat ∧
    V (mag a) * 2 ^ (nj + e).toNat * 9007199254740992 ≤ V (mag (scaleS a e).1) * 2 ^ nj * 9007199254740992 + V (mag a) * 2 ^ (nj + e).toNat := by
  have hj := nj_is
  obtain ⟨f1, f2⟩ := fin_facts a ha
  by_cases hz : mag a = 0
  · have e1 : scaleS a e = (a, 0) := by
      unfold scaleS
      rw [f1, f2, if_neg (by decide), if_pos (by rw [Bool.or_eq_true]; exact .inr ((z_iff a).2 hz))]
    rw [e1]
    show mag a < _ ∧ V (mag a) * _ * _ ≤ _ ∧ _ ≤ V (mag a) * _ * _ + _
    rw [hz, V_zero, Nat.zero_mul, Nat.zero_mul, Nat.zero_mul, Nat.zero_mul]
    exact ⟨by decide, Nat.zero_le _, Nat.zero_le _⟩
  · have e1 : scaleS a e = (sgnB (sgn a) + ((numP (V (mag a)) (e - 1074) : Nat) : Int), ((flagP (V (mag a)) (e - 1074) : Nat) : Int)) := by
      unfold scaleS
      rw [f1, f2, if_neg (by decide), if_neg (by rw [Bool.or_eq_true, z_iff]; rintro (h | h); exact absurd h (by decide); exact hz h)]
    rw [e1] at h ⊢
    have n1 := numP_scale (V (mag a)) (-1074 - (nj : Int)) (nj + e).toNat
    have n2 := flagP_scale (V (mag a)) (-1074 - (nj : Int)) (nj + e).toNat
    rw [show -1074 - (nj : Int) + ((nj + e).toNat : Int) = e - 1074 by omega] at n1 n2
    have h' : ((flagP (V (mag a)) (e - 1074) : Nat) : Int) ≤ 1 := h
    obtain ⟨g1, g2, g3⟩ := err_num (V (mag a) * 2 ^ (nj + e).toNat) nj (-1074 - (nj : Int)) rfl (by rw [n2]; omega)
    rw [n1] at g1 g2 g3
    have hm : mag (sgnB (sgn a) + ((numP (V (mag a)) (e - 1074) : Nat) : Int)) = numP (V (mag a)) (e - 1074) := (sgn_mag _ _ (by omega)).1
    show mag (sgnB (sgn a) + ((numP (V (mag a)) (e - 1074) : Nat) : Int)) < _ ∧ V (mag (sgnB (sgn a) + ((numP (V (mag a)) (e - 1074) : Nat) : Int))) * _ * _ ≤ _ ∧ _ ≤ V (mag (sgnB (sgn a) + ((numP (V (mag a)) (e - 1074) : Nat) : Int))) * _ * _ + _
    rw [hm]
    exact ⟨g1, g2, g3⟩
/-! ### The steps behind one another -/
theorem chain_up (G J P Q R U p Y K k W T Tx c M : Nat) (pJ : 0 < J) (pU : 0 < U) (pK : 0 < K) (h1 : G * J * U ≤ R * P * p) (h2 : R * U ≤ Y * p) (h3 : Y * Y * K ≤ W * k) (h4 : W * (J * J) * U ≤ T * c) (h5 : T = Tx * (Q * Q)) (h6 : P * Q = J * J)
    (hN : p * p * (p * p) * k * c ≤ U * U * U * K * M) : G * G * (U * U) ≤ Tx * M := by
  have hD : 0 < U * U * U * K * (J * J * (J * J)) := Nat.mul_pos (Nat.mul_pos (Nat.mul_pos (Nat.mul_pos pU pU) pU) pK) (Nat.mul_pos (Nat.mul_pos pJ pJ) (Nat.mul_pos pJ pJ))
  refine Nat.le_of_mul_le_mul_right ?_ hD
  have s1 : G * G * (U * U) * (U * U * U * K * (J * J * (J * J))) = G * J * U * (G * J * U) * (U * U * K * (J * J) * U) := by simp only [Nat.mul_comm, Nat.mul_left_comm, Nat.mul_assoc]
  have s2 := Nat.mul_le_mul_right (U * U * K * (J * J) * U) (Nat.mul_le_mul h1 h1)
  have s3 : R * P * p * (R * P * p) * (U * U * K * (J * J) * U) = R * U * (R * U) * (P * P * (p * p) * K * (J * J) * U) := by simp only [Nat.mul_comm, Nat.mul_left_comm, Nat.mul_assoc]
  have s4 := Nat.mul_le_mul_right (P * P * (p * p) * K * (J * J) * U) (Nat.mul_le_mul h2 h2)
  have s5 : Y * p * (Y * p) * (P * P * (p * p) * K * (J * J) * U) = Y * Y * K * (p * p * (p * p) * (P * P) * (J * J) * U) := by simp only [Nat.mul_comm, Nat.mul_left_comm, Nat.mul_assoc]
  have s6 := Nat.mul_le_mul_right (p * p * (p * p) * (P * P) * (J * J) * U) h3
  have s7 : W * k * (p * p * (p * p) * (P * P) * (J * J) * U) = W * (J * J) * U * (p * p * (p * p) * k * (P * P)) := by simp only [Nat.mul_comm, Nat.mul_left_comm, Nat.mul_assoc]
  have s8 := Nat.mul_le_mul_right (p * p * (p * p) * k * (P * P)) h4
  have s9 : T * c * (p * p * (p * p) * k * (P * P)) = p * p * (p * p) * k * c * (Tx * (P * Q * (P * Q))) := by rw [h5]; simp only [Nat.mul_comm, Nat.mul_left_comm, Nat.mul_assoc]
  have s10 := Nat.mul_le_mul_right (Tx * (P * Q * (P * Q))) hN
  have s11 : U * U * U * K * M * (Tx * (P * Q * (P * Q))) = Tx * M * (U * U * U * K * (J * J * (J * J))) := by rw [h6]; simp only [Nat.mul_comm, Nat.mul_left_comm, Nat.mul_assoc]
  rw [s1]
  refine Nat.le_trans s2 ?_
  rw [s3]
  refine Nat.le_trans s4 ?_
  rw [s5]
  refine Nat.le_trans s6 ?_
  rw [s7]
  refine Nat.le_trans s8 ?_
  rw [s9]
  refine Nat.le_trans s10 ?_
  rw [s11]
  exact Nat.le_refl _
theorem chain_low (G J P Q R U p Y K k W T Tx c M : Nat) (pJ : 0 < J) (pU : 0 < U) (pK : 0 < K) (h1 : R * P * p ≤ G * J * U) (h2 : Y * p ≤ R * U) (h3 : W * k ≤ Y * Y * K) (h4 : T * c ≤ W * (J * J) * U) (h5 : T = Tx * (Q * Q)) (h6 : P * Q = J * J)
    (hN : U * U * U * K * M ≤ p * p * (p * p) * k * c) : Tx * M ≤ G * G * (U * U) := by
  have hD : 0 < U * U * U * K * (J * J * (J * J)) := Nat.mul_pos (Nat.mul_pos (Nat.mul_pos (Nat.mul_pos pU pU) pU) pK) (Nat.mul_pos (Nat.mul_pos pJ pJ) (Nat.mul_pos pJ pJ))
  refine Nat.le_of_mul_le_mul_right ?_ hD
  have s1 : G * G * (U * U) * (U * U * U * K * (J * J * (J * J))) = G * J * U * (G * J * U) * (U * U * K * (J * J) * U) := by simp only [Nat.mul_comm, Nat.mul_left_comm, Nat.mul_assoc]
  have s2 := Nat.mul_le_mul_right (U * U * K * (J * J) * U) (Nat.mul_le_mul h1 h1)
  have s3 : R * P * p * (R * P * p) * (U * U * K * (J * J) * U) = R * U * (R * U) * (P * P * (p * p) * K * (J * J) * U) := by simp only [Nat.mul_comm, Nat.mul_left_comm, Nat.mul_assoc]
  have s4 := Nat.mul_le_mul_right (P * P * (p * p) * K * (J * J) * U) (Nat.mul_le_mul h2 h2)
  have s5 : Y * p * (Y * p) * (P * P * (p * p) * K * (J * J) * U) = Y * Y * K * (p * p * (p * p) * (P * P) * (J * J) * U) := by simp only [Nat.mul_comm, Nat.mul_left_comm, Nat.mul_assoc]
  have s6 := Nat.mul_le_mul_right (p * p * (p * p) * (P * P) * (J * J) * U) h3
  have s7 : W * k * (p * p * (p * p) * (P * P) * (J * J) * U) = W * (J * J) * U * (p * p * (p * p) * k * (P * P)) := by simp only [Nat.mul_comm, Nat.mul_left_comm, Nat.mul_assoc]
  have s8 := Nat.mul_le_mul_right (p * p * (p * p) * k * (P * P)) h4
  have s9 : T * c * (p * p * (p * p) * k * (P * P)) = p * p * (p * p) * k * c * (Tx * (P * Q * (P * Q))) := by rw [h5]; simp only [Nat.mul_comm, Nat.mul_left_comm, Nat.mul_assoc]
  have s10 := Nat.mul_le_mul_right (Tx * (P * Q * (P * Q))) hN
  have s11 : U * U * U * K * M * (Tx * (P * Q * (P * Q))) = Tx * M * (U * U * U * K * (J * J * (J * J))) := by rw [h6]; simp only [Nat.mul_comm, Nat.mul_left_comm, Nat.mul_assoc]
  rw [s1, ← s11]
  refine Nat.le_trans s10 ?_
  rw [← s9]
  refine Nat.le_trans s8 ?_
  rw [← s7]
  refine Nat.le_trans s6 ?_
  rw [← s5]
  refine Nat.le_trans s4 ?_
  rw [← s3]
  exact s2
theorem cnst_up : ∀ n : Fin 1001, 9007199254740993 * 9007199254740993 * (9007199254740993 * 9007199254740993) * 81129638414606681695789005144065 * (9007199254740992 + (2 * n.val + 3)) ≤ 9007199254740992 * 9007199254740992 * 9007199254740992 * 81129638414606681695789005144064 * ((9007199254740992 + (n.val + 4)) * (9007199254740992 + (n.val + 4))) := by decide +kernel
theorem cnst_low : ∀ n : Fin 1001, 9007199254740992 * 9007199254740992 * 9007199254740992 * 81129638414606681695789005144064 * ((9007199254740992 - (n.val + 4)) * (9007199254740992 - (n.val + 4))) ≤ 9007199254740991 * 9007199254740991 * (9007199254740991 * 9007199254740991) * 81129638414606681695789005144063 * (9007199254740992 - (2 * n.val + 3)) := by decide +kernel
theorem sqs_le (B : Nat → Nat) (b n : Nat) (h : ∀ i, i < n → B i ≤ b) : sqs B n ≤ n * (b * b) := by
  induction n with
  | zero => simp [sqs]
  | succ n ih =>
    have h1 := ih (fun i hi => h i (by omega))
    have h2 := Nat.mul_le_mul (h n (by omega)) (h n (by omega))
    unfold sqs
    rw [Nat.add_mul, Nat.one_mul]
    exact Nat.add_le_add h1 h2
theorem mag_nat (N : Nat) (h : N < 9223372036854775808) : mag (N : Int) = N ∧ sgn (N : Int) = false := by
  have := sgn_mag false N h
  rw [show sgnB false = 0 from rfl, Int.zero_add] at this
  exact ⟨this.1, this.2.1⟩
theorem v_low (v z w T c : Nat) (hz : 2 ^ 104 ≤ z) (hw : 0 < w) (hT : z * z * w ≤ T) (hc : c ≤ 4503599627370496) (h : T * 9007199254740992 ≤ v * z * w * 9007199254740992 + c * T) : 2 ^ 20 ≤ v := by
  have h1 : c * T ≤ 4503599627370496 * T := Nat.mul_le_mul_right T hc
  have h2 : T ≤ 2 * (v * z * w) := by
    generalize v * z * w = q at *
    generalize c * T = cT at *
    omega
  have h3 : z * z * w ≤ 2 * v * (z * w) := by
    refine Nat.le_trans hT (Nat.le_trans h2 ?_)
    rw [← Nat.mul_assoc 2, ← Nat.mul_assoc 2, Nat.mul_assoc (2 * v)]
    exact Nat.le_refl _
  rw [Nat.mul_assoc] at h3
  have h4 := Nat.le_of_mul_le_mul_right h3 (Nat.mul_pos (Nat.lt_of_lt_of_le (Nat.two_pow_pos _) hz) hw)
  have : (2 : Nat) ^ 21 ≤ 2 ^ 104 := by decide
  omega
theorem v_high (v z w T c n : Nat) (hn : n ≤ 1000) (hz : 0 < z) (hw : 0 < w) (hT : T ≤ n * (4 * (z * z) * w)) (hc : c ≤ 4503599627370496) (h : v * z * w * 9007199254740992 ≤ T * 9007199254740992 + c * T) : v ≤ 8192 * z := by
  have h1 : c * T ≤ 4503599627370496 * T := Nat.mul_le_mul_right T hc
  have h2 : v * z * w ≤ 2 * T := by
    generalize v * z * w = q at *
    generalize c * T = cT at *
    omega
  have h3 : n * (4 * (z * z) * w) ≤ 1000 * (4 * (z * z) * w) := Nat.mul_le_mul_right _ hn
  have h4 : v * (z * w) ≤ 8192 * z * (z * w) := by
    rw [← Nat.mul_assoc]
    refine Nat.le_trans h2 (Nat.le_trans (Nat.mul_le_mul_left 2 (Nat.le_trans hT h3)) ?_)
    rw [show 8192 * z * (z * w) = 8192 * (z * z * w) by rw [Nat.mul_assoc, ← Nat.mul_assoc z], Nat.mul_assoc 4]
    generalize z * z * w = q
    omega
  exact Nat.le_of_mul_le_mul_right h4 (Nat.mul_pos hz hw)
theorem sum_up (A T U c : Nat) (h : A ≤ T * U + c * T) : A ≤ T * (U + c) := by rw [Nat.mul_add, Nat.mul_comm T c]; exact h
theorem sum_low (A T U c : Nat) (hc : c ≤ U) (h : T * U ≤ A + c * T) : T * (U - c) ≤ A := by rw [Nat.mul_sub, Nat.mul_comm T c]; exact Nat.sub_le_of_le_add h
/-- P10.3. -/
theorem norm_err (X : Nat → Int) (e : Int) (n : Nat) (hn : n ≤ 1000) (fx : ∀ i, i < n → mag (X i) < 9218868437227405312) (e0 : -1074 ≤ e) (e1 : e ≤ 1023) (hle : ∀ i, i < n → V (mag (X i)) ≤ 2 ^ (e + 1075).toNat) (hmax : ∃ i, i < n ∧ 2 ^ (e + 1074).toNat ≤ V (mag (X i)))
    (s r g : Int) (hs : s = dotV (fun i => (scaleS (X i) (-e)).1) (fun i => (scaleS (X i) (-e)).1) n) (hr : r = (sqrtS s).1) (hg : g = (scaleS r e).1) (hf : (scaleS r e).2 ≤ 1) :
    mag g < 9218868437227405312 ∧ V (mag g) * V (mag g) * (9007199254740992 * 9007199254740992) ≤ sqs (fun i => V (mag (X i))) n * ((9007199254740992 + (n + 4)) * (9007199254740992 + (n + 4))) ∧
    sqs (fun i => V (mag (X i))) n * ((9007199254740992 - (n + 4)) * (9007199254740992 - (n + 4))) ≤ V (mag g) * V (mag g) * (9007199254740992 * 9007199254740992) := by
  have hu := uu_is
  have hj := nj_is
  have hsum := norm_sum X e n hn fx e0 e1 hle hmax
  rw [← hs] at hsum
  obtain ⟨s1, s2, s3, s4⟩ := hsum
  -- the sum of squares, its bounds
  obtain ⟨i0, hi0, hm0⟩ := hmax
  have hb : ∀ i, i < n → V (mag (X i)) * 2 ^ (nj - e).toNat ≤ 2 * 2 ^ uu * 2 ^ nj := by
    intro i hi
    refine Nat.le_trans (Nat.mul_le_mul_right _ (hle i hi)) ?_
    rw [← Nat.pow_add, Nat.mul_comm 2 (2 ^ uu), ← Nat.pow_succ, ← Nat.pow_add]
    exact Nat.pow_le_pow_right (by decide) (by omega)
  have hT0 : 2 ^ uu * 2 ^ uu * (2 ^ nj * 2 ^ nj) ≤ sqs (fun i => V (mag (X i)) * 2 ^ (nj - e).toNat) n := by
    refine Nat.le_trans ?_ (sqs_ge (fun i => V (mag (X i)) * 2 ^ (nj - e).toNat) n i0 hi0)
    have h1 : 2 ^ uu * 2 ^ nj ≤ V (mag (X i0)) * 2 ^ (nj - e).toNat := by
      refine Nat.le_trans ?_ (Nat.mul_le_mul_right _ hm0)
      rw [← Nat.pow_add, ← Nat.pow_add]
      exact Nat.pow_le_pow_right (by decide) (by omega)
    have := Nat.mul_le_mul h1 h1
    rw [show 2 ^ uu * 2 ^ nj * (2 ^ uu * 2 ^ nj) = 2 ^ uu * 2 ^ uu * (2 ^ nj * 2 ^ nj) by rw [Nat.mul_assoc, Nat.mul_left_comm (2 ^ nj), ← Nat.mul_assoc]] at this
    exact this
  have hT1 : sqs (fun i => V (mag (X i)) * 2 ^ (nj - e).toNat) n ≤ n * (4 * (2 ^ uu * 2 ^ uu) * (2 ^ nj * 2 ^ nj)) := by
    refine Nat.le_trans (sqs_le _ _ n hb) (Nat.mul_le_mul_left n (Nat.le_of_eq ?_))
    generalize 2 ^ uu = z
    generalize 2 ^ nj = j
    rw [show 2 * z * j * (2 * z * j) = 2 * (2 * (z * z * (j * j))) by simp only [Nat.mul_comm, Nat.mul_left_comm, Nat.mul_assoc], Nat.mul_assoc 4]
    generalize z * z * (j * j) = q
    omega
  have hwp : 0 < 2 ^ nj * 2 ^ nj := Nat.mul_pos (Nat.two_pow_pos _) (Nat.two_pow_pos _)
  have hz104 : 2 ^ 104 ≤ 2 ^ uu := Nat.pow_le_pow_right (by decide) (by omega)
  have v0 := v_low _ _ _ _ _ hz104 hwp hT0 (by omega) s4
  have v1 : (sv s).toNat ≤ 2 ^ (uu + 100) := by
    refine Nat.le_trans (v_high _ _ _ _ _ n hn (Nat.two_pow_pos _) hwp hT1 (by omega) s3) ?_
    rw [show (8192 : Nat) = 2 ^ 13 by decide, ← Nat.pow_add]
    exact Nat.pow_le_pow_right (by decide) (by omega)
  -- its sign, its root
  have hsg : sgn s = false := by
    cases h : sgn s with
    | false => rfl
    | true =>
      exfalso
      unfold sv at s2
      rw [h, if_pos rfl] at s2
      omega
  have hV : (sv s).toNat = V (mag s) := by
    unfold sv
    rw [hsg, if_neg (by decide), Int.toNat_natCast]
  rw [hV] at s3 s4 v0 v1
  have hmz : mag s ≠ 0 := by
    intro h
    rw [sv_zero s h] at s2
    omega
  have hrt : r = ((rootN (V (mag s)) : Nat) : Int) := by
    obtain ⟨f1, f2⟩ := fin_facts s s1
    rw [hr]
    unfold sqrtS
    rw [f1, if_neg (by decide), if_neg (by rw [z_iff]; exact hmz), if_neg (fun h => by rw [h] at s1; exact absurd s1 (by decide)), hsg, if_neg (by decide)]
  obtain ⟨Y, y0, y1, y2, y3, y4⟩ := root_err _ v0 v1
  have hmr := (mag_nat (rootN (V (mag s))) (by omega)).1
  rw [← hrt] at hmr
  obtain ⟨g0, g1, g2⟩ := scale_near r e (by rw [hmr]; exact y0) (by omega) hf
  rw [← hg, hmr] at g1 g2
  rw [← hg] at g0
  have h5 := sqs_scale (fun i => V (mag (X i))) (2 ^ (nj - e).toNat) n
  have h6 : 2 ^ (nj + e).toNat * 2 ^ (nj - e).toNat = 2 ^ nj * 2 ^ nj := by
    rw [← Nat.pow_add, ← Nat.pow_add, show (nj + e).toNat + (nj - e).toNat = nj + nj by omega]
  refine ⟨g0, ?_, ?_⟩
  · exact chain_up (V (mag g)) (2 ^ nj) _ _ (V (rootN (V (mag s)))) 9007199254740992 9007199254740993 Y 81129638414606681695789005144064 81129638414606681695789005144065 _ _ _ _ _ (Nat.two_pow_pos _) (by decide) (by decide) (up1 _ _ _ g1) y1 y3 (sum_up _ _ _ _ s3) h5 h6 (cnst_up ⟨n, by omega⟩)
  · exact chain_low (V (mag g)) (2 ^ nj) _ _ (V (rootN (V (mag s)))) 9007199254740992 9007199254740991 Y 81129638414606681695789005144064 81129638414606681695789005144063 _ _ _ _ _ (Nat.two_pow_pos _) (by decide) (by decide) (low1 _ _ 9007199254740991 g2) y2 y4 (sum_low _ _ _ _ (by omega) s4) h5 h6 (cnst_low ⟨n, by omega⟩)
end Go.Proofs.Ytpakpgjbgehhjaa

/-
  Numbers times a power of two: where nothing is too great or too small nothing is lost; the power beneath the greatest of some numbers; their root of a sum of squares (P10.3, VecPower). Conditions: finite numbers.
-/
namespace Go.Proofs.Ytpakpgjbgehhjaa
set_option linter.unusedVariables false
set_option linter.unusedSimpArgs false

/-- A pattern's number times a power of two is lost only where it is small. -/
theorem flag_V (p : Nat) (E : Int) (h : flagP (V p) E ≤ 1) : flagP (V p) E = 0 := by
  obtain ⟨k, d, _, hV, hk, _⟩ := V_form p
  by_cases hz : V p = 0
  · rw [hz]
    unfold flagP patP
    rw [if_pos rfl, if_neg (by decide), if_neg (fun h => h.1 rfl)]
  · have hk0 : 0 < k := by
      refine Nat.pos_of_ne_zero fun g => hz ?_
      rw [hV, g, Nat.zero_mul]
    unfold flagP at h ⊢
    split at h
    · omega
    · rename_i h1
      rw [if_neg h1]
      split at h
      · rename_i h2
        exfalso
        split at h
        · omega
        · rename_i h3
          have h4 := h2.2
          rw [hV, lostP_scale k E d hk0] at h4
          rw [hV, smallP_scale k E d hk0] at h3
          unfold lostP lostI at h4
          unfold smallP at h3
          rw [decide_eq_true_eq] at h4
          have hlen := (bl_length_le k 53).2 (Nat.lt_of_lt_of_le hk (by decide))
          unfold lastP at h4
          have h5 := h4.1
          simp at h3
          omega
      · rename_i h2
        rw [if_neg h2]
/-- Scaled, neither too great nor too small: nothing is lost. -/
theorem scale_flag (a n : Int) (ha : mag a < 9218868437227405312) (h : (scaleS a n).2 ≤ 1) : (scaleS a n).2 = 0 := by
  obtain ⟨f1, f2⟩ := fin_facts a ha
  by_cases hz : mag a = 0
  · have e1 : scaleS a n = (a, 0) := by
      unfold scaleS
      rw [f1, f2, if_neg (by decide), if_pos (by rw [Bool.or_eq_true]; exact .inr ((z_iff a).2 hz))]
    rw [e1]
  · have e1 : scaleS a n = (sgnB (sgn a) + ((numP (V (mag a)) (n - 1074) : Nat) : Int), ((flagP (V (mag a)) (n - 1074) : Nat) : Int)) := by
      unfold scaleS
      rw [f1, f2, if_neg (by decide), if_neg (by rw [Bool.or_eq_true, z_iff]; rintro (h | h); exact absurd h (by decide); exact hz h)]
    rw [e1] at h ⊢
    have h' : ((flagP (V (mag a)) (n - 1074) : Nat) : Int) ≤ 1 := h
    have := flag_V (mag a) (n - 1074) (by omega)
    show ((flagP _ _ : Nat) : Int) = 0
    rw [this]
    rfl
def ii : Nat := 2046
theorem ii_is : (ii : Int) = 2046 := rfl
theorem V_inf : V 9218868437227405312 = 2 ^ (52 + ii) := by
  have := V_split 4503599627370496 ii (by decide) (.inl (by decide))
  rw [show 4503599627370496 + ii * 4503599627370496 = 9218868437227405312 from rfl] at this
  rw [this, Nat.pow_add]
/-- The greatest of n numbers is from 2^e on, and beneath 2^(e + 1). -/
def IsPow (X : Nat → Int) (n : Nat) (e : Int) : Prop := -1074 ≤ e ∧ e ≤ 1023 ∧ (∀ i, i < n → V (mag (X i)) < 2 ^ (e + 1075).toNat) ∧ ∃ i, i < n ∧ 2 ^ (e + 1074).toNat ≤ V (mag (X i))
theorem IsPow.only {X : Nat → Int} {n : Nat} {e f : Int} (h : IsPow X n e) (g : IsPow X n f) : e = f := by
  obtain ⟨h1, h2, h3, i, hi, h4⟩ := h
  obtain ⟨g1, g2, g3, j, hj, g4⟩ := g
  have a1 := Nat.lt_of_le_of_lt h4 (g3 i hi)
  have a2 := Nat.lt_of_le_of_lt g4 (h3 j hj)
  have b1 := (Nat.pow_lt_pow_iff_right (by decide : 1 < 2)).1 a1
  have b2 := (Nat.pow_lt_pow_iff_right (by decide : 1 < 2)).1 a2
  omega
/-- What is scaled and loses nothing stands for the same number, times the power. -/
theorem scale_V (a n : Int) (ha : mag a < 9218868437227405312) (h : (scaleS a n).2 = 0) : mag (scaleS a n).1 < 9218868437227405312 ∧ ∃ i j : Nat, V (mag (scaleS a n).1) * 2 ^ j = V (mag a) * 2 ^ i ∧ (i : Int) - j = n := by
  obtain ⟨f1, f2⟩ := fin_facts a ha
  by_cases hz : mag a = 0
  · have e1 : scaleS a n = (a, 0) := by
      unfold scaleS
      rw [f1, f2, if_neg (by decide), if_pos (by rw [Bool.or_eq_true]; exact .inr ((z_iff a).2 hz))]
    rw [e1]
    refine ⟨ha, ?_⟩
    show ∃ i j : Nat, V (mag a) * 2 ^ j = V (mag a) * 2 ^ i ∧ _
    rw [hz, V_zero]
    rcases Int.le_total 0 n with g | g
    · exact ⟨n.toNat, 0, by simp, by omega⟩
    · exact ⟨0, (-n).toNat, by simp, by omega⟩
  · have e1 : scaleS a n = (sgnB (sgn a) + ((numP (V (mag a)) (n - 1074) : Nat) : Int), ((flagP (V (mag a)) (n - 1074) : Nat) : Int)) := by
      unfold scaleS
      rw [f1, f2, if_neg (by decide), if_neg (by rw [Bool.or_eq_true, z_iff]; rintro (h | h); exact absurd h (by decide); exact hz h)]
    rw [e1] at h ⊢
    have h' : ((flagP (V (mag a)) (n - 1074) : Nat) : Int) = 0 := h
    obtain ⟨p1, p2⟩ := num_pat (V (mag a)) (n - 1074) (by omega)
    have hm : mag (sgnB (sgn a) + ((numP (V (mag a)) (n - 1074) : Nat) : Int)) = numP (V (mag a)) (n - 1074) := (sgn_mag _ _ (by omega)).1
    show mag (sgnB (sgn a) + ((numP (V (mag a)) (n - 1074) : Nat) : Int)) < _ ∧ ∃ i j : Nat, V (mag (sgnB (sgn a) + ((numP (V (mag a)) (n - 1074) : Nat) : Int))) * 2 ^ j = _ ∧ _
    rw [hm, p1]
    have hVp := V_pos (mag a) (by omega)
    have hl : lostP (V (mag a)) (n - 1074) = false := by
      cases hl : lostP (V (mag a)) (n - 1074) with
      | false => rfl
      | true =>
        exfalso
        unfold flagP at h'
        rw [if_neg (by omega), if_pos ⟨by omega, hl⟩] at h'
        split at h' <;> omega
    obtain ⟨i, j, t1, t2⟩ := told_any _ _ hVp hl
    exact ⟨p2, i, j, t1, by omega⟩
/-- The power beneath the greatest of numbers that were scaled. -/
theorem IsPow.scale {X : Nat → Int} {n : Nat} {e : Int} (h : IsPow X n e) (k : Int) (fx : ∀ i, i < n → mag (X i) < 9218868437227405312) (hf : ∀ i, i < n → (scaleS (X i) k).2 = 0) : IsPow (fun i => (scaleS (X i) k).1) n (e + k) := by
  obtain ⟨h1, h2, h3, i0, hi0, h4⟩ := h
  have key : ∀ i, i < n → V (mag (X i)) < 2 ^ (e + 1075).toNat → -1075 ≤ e + k → V (mag (scaleS (X i) k).1) < 2 ^ (e + k + 1075).toNat := by
    intro i hi hlt hek
    obtain ⟨_, a, b, t1, t2⟩ := scale_V (X i) k (fx i hi) (hf i hi)
    refine Nat.lt_of_mul_lt_mul_right (a := 2 ^ b) ?_
    rw [t1]
    refine Nat.lt_of_lt_of_le (Nat.mul_lt_mul_of_pos_right hlt (Nat.two_pow_pos _)) ?_
    rw [← Nat.pow_add, ← Nat.pow_add]
    exact Nat.pow_le_pow_right (by decide) (by omega)
  obtain ⟨m0, a0, b0, t1, t2⟩ := scale_V (X i0) k (fx i0 hi0) (hf i0 hi0)
  have hVp : 0 < V (mag (X i0)) := Nat.lt_of_lt_of_le (Nat.two_pow_pos _) h4
  have hpos : 0 < V (mag (scaleS (X i0) k).1) := by
    refine Nat.pos_of_ne_zero fun g => ?_
    rw [g, Nat.zero_mul] at t1
    have := Nat.mul_pos hVp (Nat.two_pow_pos a0)
    omega
  have hlo : -1074 ≤ e + k := by
    refine Int.le_of_not_gt fun g => ?_
    have c1 : V (mag (X i0)) * 2 ^ a0 < 2 ^ (e + 1075).toNat * 2 ^ a0 := Nat.mul_lt_mul_of_pos_right (h3 i0 hi0) (Nat.two_pow_pos _)
    have c2 : 1 * 2 ^ b0 ≤ V (mag (scaleS (X i0) k).1) * 2 ^ b0 := Nat.mul_le_mul_right _ hpos
    rw [t1, Nat.one_mul] at c2
    have c3 := Nat.lt_of_le_of_lt c2 c1
    rw [← Nat.pow_add] at c3
    have := (Nat.pow_lt_pow_iff_right (by decide : 1 < 2)).1 c3
    omega
  have hge : 2 ^ (e + k + 1074).toNat ≤ V (mag (scaleS (X i0) k).1) := by
    refine Nat.le_of_mul_le_mul_right ?_ (Nat.two_pow_pos b0)
    rw [t1]
    refine Nat.le_trans ?_ (Nat.mul_le_mul_right _ h4)
    rw [← Nat.pow_add, ← Nat.pow_add]
    exact Nat.pow_le_pow_right (by decide) (by omega)
  have hhi : e + k ≤ 1023 := by
    refine Int.le_of_not_gt fun g => ?_
    have c1 := V_lt _ _ m0
    have hii := ii_is
    rw [V_inf] at c1
    have c3 := (Nat.pow_lt_pow_iff_right (by decide : 1 < 2)).1 (Nat.lt_of_le_of_lt hge c1)
    omega
  exact ⟨hlo, hhi, fun i hi => key i hi (h3 i hi) (by omega), i0, hi0, hge⟩
theorem scale_flag' (a n : Int) (h : (scaleS a n).2 ≤ 1) : (scaleS a n).2 = 0 := by
  by_cases hf : mag a < 9218868437227405312
  · exact scale_flag a n hf h
  · by_cases hn : isNan a = true
    · unfold scaleS at *
      rw [if_pos hn] at *
      have h' : nanF a a ≤ 1 := h
      show nanF a a = 0
      have := nanF_cases a a
      omega
    · unfold scaleS at *
      rw [if_neg hn] at *
      have hi : isInf a = true := by
        unfold isInf
        rw [decide_eq_true_eq]
        have : ¬ 9218868437227405312 < mag a := by simpa [isNan] using hn
        omega
      rw [if_pos (by rw [hi]; rfl)]
theorem dotV_congr (X Y X' Y' : Nat → Int) (n : Nat) (h : ∀ i, i < n → X i = X' i ∧ Y i = Y' i) : dotV X Y n = dotV X' Y' n := by
  induction n with
  | zero => rfl
  | succ n ih =>
    have h1 := h n (by omega)
    unfold dotV
    rw [ih (fun i hi => h i (by omega)), h1.1, h1.2]
/-- The numbers divided by 2^e. -/
def unitS (X : Nat → Int) (e : Int) : Nat → Int := fun i => (scaleS (X i) (-e)).1
/-- The root of the sum of squares, as layer 10 says. -/
def nrmV (X : Nat → Int) (n : Nat) (e : Int) : Int × Int := scaleS (sqrtS (dotV (unitS X e) (unitS X e) n)).1 e
/-- Numbers times a power of two: their root of a sum of squares, times it. -/
theorem nrm_scale (X : Nat → Int) (n : Nat) (e k : Int) (rx : ∀ i, i < n → 0 ≤ X i ∧ X i < 18446744073709551616) (hf : ∀ i, i < n → (scaleS (X i) k).2 = 0) (h : (nrmV X n e).2 ≤ 1) : nrmV (fun i => (scaleS (X i) k).1) n (e + k) = scaleS (nrmV X n e).1 k := by
  have hu : ∀ i, i < n → unitS (fun i => (scaleS (X i) k).1) (e + k) i = unitS X e i := by
    intro i hi
    unfold unitS
    rw [scale_twice (X i) k (-(e + k)) (rx i hi).1 (rx i hi).2 (hf i hi), show k + -(e + k) = -e by omega]
  have hd := dotV_congr _ _ _ _ n (fun i hi => ⟨hu i hi, hu i hi⟩)
  have hr := dotV_rng (unitS X e) (unitS X e) n
  have hb := sqrtS_bd _ hr.1 hr.2
  unfold nrmV at *
  rw [hd, scale_twice _ e k hb.1 hb.2.1 (scale_flag' _ _ h)]
end Go.Proofs.Ytpakpgjbgehhjaa
