/-
  P10.3: the root of a sum of squares, reckoned as layer 10 says, is within (n + 4) 2^-53 of the exact one. Conditions: at most 1000 finite numbers, the greatest from 2^e on and beneath 2^(e + 1); what is scaled back is neither too great nor too small.
-/
import Derived.Test.YtokgfeeaoioegaaNormR
namespace Go.Proofs.Ytokgfeeaoioegaa
set_option linter.unusedVariables false
set_option linter.unusedSimpArgs false

/-- A number times a power of two, neither too great nor too small: near. -/
theorem scale_near (a e : Int) (ha : mag a < 9218868437227405312) (e0 : -1100 ≤ e) (h : (scaleS a e).2 ≤ 1) :
    mag (scaleS a e).1 < 9218868437227405312 ∧ V (mag (scaleS a e).1) * 2 ^ nj * 9007199254740992 ≤ V (mag a) * 2 ^ (nj + e).toNat * 9007199254740992 + V (mag a) * 2 ^ (nj + e).toNat ∧
    V (mag a) * 2 ^ (nj + e).toNat * 9007199254740992 ≤ V (mag (scaleS a e).1) * 2 ^ nj * 9007199254740992 + V (mag a) * 2 ^ (nj + e).toNat := by
  have hj := nj_is
  obtain ⟨f1, f2⟩ := fin_facts a ha
  by_cases hz : mag a = 0
  · have e1 : scaleS a e = (a, 0) := by
      unfold scaleS
      rw [f1, f2, if_neg (by decide), if_pos (by rw [Bool.or_eq_true]; exact .inr ((z_iff a).2 hz))]
    rw [e1]
    show mag a < _ ∧ V (mag a) * _ * _ ≤ _ ∧ _ ≤ V (mag a) * _ * _ + _
    rw [hz, V_zero, Nat.zero_mul, Nat.zero_mul, Nat.zero_mul, Nat.zero_mul]
    exact ⟨by decide, Nat.zero_le _, Nat.zero_le _⟩
  · have e1 : scaleS a e = (sgnB (sgn a) + ((numP (V (mag a)) (e - 1074) : Nat) : Int), ((flagP (V (mag a)) (e - 1074) : Nat) : Int)) := by
      unfold scaleS
      rw [f1, f2, if_neg (by decide), if_neg (by rw [Bool.or_eq_true, z_iff]; rintro (h | h); exact absurd h (by decide); exact hz h)]
    rw [e1] at h ⊢
    have n1 := numP_scale (V (mag a)) (-1074 - (nj : Int)) (nj + e).toNat
    have n2 := flagP_scale (V (mag a)) (-1074 - (nj : Int)) (nj + e).toNat
    rw [show -1074 - (nj : Int) + ((nj + e).toNat : Int) = e - 1074 by omega] at n1 n2
    have h' : ((flagP (V (mag a)) (e - 1074) : Nat) : Int) ≤ 1 := h
    obtain ⟨g1, g2, g3⟩ := err_num (V (mag a) * 2 ^ (nj + e).toNat) nj (-1074 - (nj : Int)) rfl (by rw [n2]; omega)
    rw [n1] at g1 g2 g3
    have hm : mag (sgnB (sgn a) + ((numP (V (mag a)) (e - 1074) : Nat) : Int)) = numP (V (mag a)) (e - 1074) := (sgn_mag _ _ (by omega)).1
    show mag (sgnB (sgn a) + ((numP (V (mag a)) (e - 1074) : Nat) : Int)) < _ ∧ V (mag (sgnB (sgn a) + ((numP (V (mag a)) (e - 1074) : Nat) : Int))) * _ * _ ≤ _ ∧ _ ≤ V (mag (sgnB (sgn a) + ((numP (V (mag a)) (e - 1074) : Nat) : Int))) * _ * _ + _
    rw [hm]
    exact ⟨g1, g2, g3⟩
/-! ### The steps behind one another -/
theorem chain_up (G J P Q R U p Y K k W T Tx c M : Nat) (pJ : 0 < J) (pU : 0 < U) (pK : 0 < K) (h1 : G * J * U ≤ R * P * p) (h2 : R * U ≤ Y * p) (h3 : Y * Y * K ≤ W * k) (h4 : W * (J * J) * U ≤ T * c) (h5 : T = Tx * (Q * Q)) (h6 : P * Q = J * J)
    (hN : p * p * (p * p) * k * c ≤ U * U * U * K * M) : G * G * (U * U) ≤ Tx * M := by
  have hD : 0 < U * U * U * K * (J * J * (J * J)) := Nat.mul_pos (Nat.mul_pos (Nat.mul_pos (Nat.mul_pos pU pU) pU) pK) (Nat.mul_pos (Nat.mul_pos pJ pJ) (Nat.mul_pos pJ pJ))
  refine Nat.le_of_mul_le_mul_right ?_ hD
  have s1 : G * G * (U * U) * (U * U * U * K * (J * J * (J * J))) = G * J * U * (G * J * U) * (U * U * K * (J * J) * U) := by simp only [Nat.mul_comm, Nat.mul_left_comm, Nat.mul_assoc]
  have s2 := Nat.mul_le_mul_right (U * U * K * (J * J) * U) (Nat.mul_le_mul h1 h1)
  have s3 : R * P * p * (R * P * p) * (U * U * K * (J * J) * U) = R * U * (R * U) * (P * P * (p * p) * K * (J * J) * U) := by simp only [Nat.mul_comm, Nat.mul_left_comm, Nat.mul_assoc]
  have s4 := Nat.mul_le_mul_right (P * P * (p * p) * K * (J * J) * U) (Nat.mul_le_mul h2 h2)
  have s5 : Y * p * (Y * p) * (P * P * (p * p) * K * (J * J) * U) = Y * Y * K * (p * p * (p * p) * (P * P) * (J * J) * U) := by simp only [Nat.mul_comm, Nat.mul_left_comm, Nat.mul_assoc]
  have s6 := Nat.mul_le_mul_right (p * p * (p * p) * (P * P) * (J * J) * U) h3
  have s7 : W * k * (p * p * (p * p) * (P * P) * (J * J) * U) = W * (J * J) * U * (p * p * (p * p) * k * (P * P)) := by simp only [Nat.mul_comm, Nat.mul_left_comm, Nat.mul_assoc]
  have s8 := Nat.mul_le_mul_right (p * p * (p * p) * k * (P * P)) h4
  have s9 : T * c * (p * p * (p * p) * k * (P * P)) = p * p * (p * p) * k * c * (Tx * (P * Q * (P * Q))) := by rw [h5]; simp only [Nat.mul_comm, Nat.mul_left_comm, Nat.mul_assoc]
  have s10 := Nat.mul_le_mul_right (Tx * (P * Q * (P * Q))) hN
  have s11 : U * U * U * K * M * (Tx * (P * Q * (P * Q))) = Tx * M * (U * U * U * K * (J * J * (J * J))) := by rw [h6]; simp only [Nat.mul_comm, Nat.mul_left_comm, Nat.mul_assoc]
  rw [s1]
  refine Nat.le_trans s2 ?_
  rw [s3]
  refine Nat.le_trans s4 ?_
  rw [s5]
  refine Nat.le_trans s6 ?_
  rw [s7]
  refine Nat.le_trans s8 ?_
  rw [s9]
  refine Nat.le_trans s10 ?_
  rw [s11]
  exact Nat.le_refl _
theorem chain_low (G J P Q R U p Y K k W T Tx c M : Nat) (pJ : 0 < J) (pU : 0 < U) (pK : 0 < K) (h1 : R * P * p ≤ G * J * U) (h2 : Y * p ≤ R * U) (h3 : W * k ≤ Y * Y * K) (h4 : T * c ≤ W * (J * J) * U) (h5 : T = Tx * (Q * Q)) (h6 : P * Q = J * J)
    (hN : U * U * U * K * M ≤ p * p * (p * p) * k * c) : Tx * M ≤ G * G * (U * U) := by
  have hD : 0 < U * U * U * K * (J * J * (J * J)) := Nat.mul_pos (Nat.mul_pos (Nat.mul_pos (Nat.mul_pos pU pU) pU) pK) (Nat.mul_pos (Nat.mul_pos pJ pJ) (Nat.mul_pos pJ pJ))
  refine Nat.le_of_mul_le_mul_right ?_ hD
  have s1 : G * G * (U * U) * (U * U * U * K * (J * J * (J * J))) = G * J * U * (G * J * U) * (U * U * K * (J * J) * U) := by simp only [Nat.mul_comm, Nat.mul_left_comm, Nat.mul_assoc]
  have s2 := Nat.mul_le_mul_right (U * U * K * (J * J) * U) (Nat.mul_le_mul h1 h1)
  have s3 : R * P * p * (R * P * p) * (U * U * K * (J * J) * U) = R * U * (R * U) * (P * P * (p * p) * K * (J * J) * U) := by simp only [Nat.mul_comm, Nat.mul_left_comm, Nat.mul_assoc]
  have s4 := Nat.mul_le_mul_right (P * P * (p * p) * K * (J * J) * U) (Nat.mul_le_mul h2 h2)
  have s5 : Y * p * (Y * p) * (P * P * (p * p) * K * (J * J) * U) = Y * Y * K * (p * p * (p * p) * (P * P) * (J * J) * U) := by simp only [Nat.mul_comm, Nat.mul_left_comm, Nat.mul_assoc]
  have s6 := Nat.mul_le_mul_right (p * p * (p * p) * (P * P) * (J * J) * U) h3
  have s7 : W * k * (p * p * (p * p) * (P * P) * (J * J) * U) = W * (J * J) * U * (p * p * (p * p) * k * (P * P)) := by simp only [Nat.mul_comm, Nat.mul_left_comm, Nat.mul_assoc]
  have s8 := Nat.mul_le_mul_right (p * p * (p * p) * k * (P * P)) h4
  have s9 : T * c * (p * p * (p * p) * k * (P * P)) = p * p * (p * p) * k * c * (Tx * (P * Q * (P * Q))) := by rw [h5]; simp only [Nat.mul_comm, Nat.mul_left_comm, Nat.mul_assoc]
  have s10 := Nat.mul_le_mul_right (Tx * (P * Q * (P * Q))) hN
  have s11 : U * U * U * K * M * (Tx * (P * Q * (P * Q))) = Tx * M * (U * U * U * K * (J * J * (J * J))) := by rw [h6]; simp only [Nat.mul_comm, Nat.mul_left_comm, Nat.mul_assoc]
  rw [s1, ← s11]
  refine Nat.le_trans s10 ?_
  rw [← s9]
  refine Nat.le_trans s8 ?_
  rw [← s7]
  refine Nat.le_trans s6 ?_
  rw [← s5]
  refine Nat.le_trans s4 ?_
  rw [← s3]
  exact s2
theorem cnst_up : ∀ n : Fin 1001, 9007199254740993 * 9007199254740993 * (9007199254740993 * 9007199254740993) * 81129638414606681695789005144065 * (9007199254740992 + (2 * n.val + 3)) ≤ 9007199254740992 * 9007199254740992 * 9007199254740992 * 81129638414606681695789005144064 * ((9007199254740992 + (n.val + 4)) * (9007199254740992 + (n.val + 4))) := by decide +kernel
theorem cnst_low : ∀ n : Fin 1001, 9007199254740992 * 9007199254740992 * 9007199254740992 * 81129638414606681695789005144064 * ((9007199254740992 - (n.val + 4)) * (9007199254740992 - (n.val + 4))) ≤ 9007199254740991 * 9007199254740991 * (9007199254740991 * 9007199254740991) * 81129638414606681695789005144063 * (9007199254740992 - (2 * n.val + 3)) := by decide +kernel
theorem sqs_le (B : Nat → Nat) (b n : Nat) (h : ∀ i, i < n → B i ≤ b) : sqs B n ≤ n * (b * b) := by
  induction n with
  | zero => simp [sqs]
  | succ n ih =>
    have h1 := ih (fun i hi => h i (by omega))
    have h2 := Nat.mul_le_mul (h n (by omega)) (h n (by omega))
    unfold sqs
    rw [Nat.add_mul, Nat.one_mul]
    exact Nat.add_le_add h1 h2
theorem mag_nat (N : Nat) (h : N < 9223372036854775808) : mag (N : Int) = N ∧ sgn (N : Int) = false := by
  have := sgn_mag false N h
  rw [show sgnB false = 0 from rfl, Int.zero_add] at this
  exact ⟨this.1, this.2.1⟩
theorem v_low (v z w T c : Nat) (hz : 2 ^ 104 ≤ z) (hw : 0 < w) (hT : z * z * w ≤ T) (hc : c ≤ 4503599627370496) (h : T * 9007199254740992 ≤ v * z * w * 9007199254740992 + c * T) : 2 ^ 20 ≤ v := by
  have h1 : c * T ≤ 4503599627370496 * T := Nat.mul_le_mul_right T hc
  have h2 : T ≤ 2 * (v * z * w) := by
    generalize v * z * w = q at *
    generalize c * T = cT at *
    omega
  have h3 : z * z * w ≤ 2 * v * (z * w) := by
    refine Nat.le_trans hT (Nat.le_trans h2 ?_)
    rw [← Nat.mul_assoc 2, ← Nat.mul_assoc 2, Nat.mul_assoc (2 * v)]
    exact Nat.le_refl _
  rw [Nat.mul_assoc] at h3
  have h4 := Nat.le_of_mul_le_mul_right h3 (Nat.mul_pos (Nat.lt_of_lt_of_le (Nat.two_pow_pos _) hz) hw)
  have : (2 : Nat) ^ 21 ≤ 2 ^ 104 := by decide
  omega
theorem v_high (v z w T c n : Nat) (hn : n ≤ 1000) (hz : 0 < z) (hw : 0 < w) (hT : T ≤ n * (4 * (z * z) * w)) (hc : c ≤ 4503599627370496) (h : v * z * w * 9007199254740992 ≤ T * 9007199254740992 + c * T) : v ≤ 8192 * z := by
  have h1 : c * T ≤ 4503599627370496 * T := Nat.mul_le_mul_right T hc
  have h2 : v * z * w ≤ 2 * T := by
    generalize v * z * w = q at *
    generalize c * T = cT at *
    omega
  have h3 : n * (4 * (z * z) * w) ≤ 1000 * (4 * (z * z) * w) := Nat.mul_le_mul_right _ hn
  have h4 : v * (z * w) ≤ 8192 * z * (z * w) := by
    rw [← Nat.mul_assoc]
    refine Nat.le_trans h2 (Nat.le_trans (Nat.mul_le_mul_left 2 (Nat.le_trans hT h3)) ?_)
    rw [show 8192 * z * (z * w) = 8192 * (z * z * w) by rw [Nat.mul_assoc, ← Nat.mul_assoc z], Nat.mul_assoc 4]
    generalize z * z * w = q
    omega
  exact Nat.le_of_mul_le_mul_right h4 (Nat.mul_pos hz hw)
theorem sum_up (A T U c : Nat) (h : A ≤ T * U + c * T) : A ≤ T * (U + c) := by rw [Nat.mul_add, Nat.mul_comm T c]; exact h
theorem sum_low (A T U c : Nat) (hc : c ≤ U) (h : T * U ≤ A + c * T) : T * (U - c) ≤ A := by rw [Nat.mul_sub, Nat.mul_comm T c]; exact Nat.sub_le_of_le_add h
/-- P10.3. -/
theorem norm_err (X : Nat → Int) (e : Int) (n : Nat) (hn : n ≤ 1000) (fx : ∀ i, i < n → mag (X i) < 9218868437227405312) (e0 : -1074 ≤ e) (e1 : e ≤ 1023) (hle : ∀ i, i < n → V (mag (X i)) ≤ 2 ^ (e + 1075).toNat) (hmax : ∃ i, i < n ∧ 2 ^ (e + 1074).toNat ≤ V (mag (X i)))
    (s r g : Int) (hs : s = dotV (fun i => (scaleS (X i) (-e)).1) (fun i => (scaleS (X i) (-e)).1) n) (hr : r = (sqrtS s).1) (hg : g = (scaleS r e).1) (hf : (scaleS r e).2 ≤ 1) :
    mag g < 9218868437227405312 ∧ V (mag g) * V (mag g) * (9007199254740992 * 9007199254740992) ≤ sqs (fun i => V (mag (X i))) n * ((9007199254740992 + (n + 4)) * (9007199254740992 + (n + 4))) ∧
    sqs (fun i => V (mag (X i))) n * ((9007199254740992 - (n + 4)) * (9007199254740992 - (n + 4))) ≤ V (mag g) * V (mag g) * (9007199254740992 * 9007199254740992) := by
  have hu := uu_is
  have hj := nj_is
  have hsum := norm_sum X e n hn fx e0 e1 hle hmax
  rw [← hs] at hsum
  obtain ⟨s1, s2, s3, s4⟩ := hsum
  -- the sum of squares, its bounds
  obtain ⟨i0, hi0, hm0⟩ := hmax
  have hb : ∀ i, i < n → V (mag (X i)) * 2 ^ (nj - e).toNat ≤ 2 * 2 ^ uu * 2 ^ nj := by
    intro i hi
    refine Nat.le_trans (Nat.mul_le_mul_right _ (hle i hi)) ?_
    rw [← Nat.pow_add, Nat.mul_comm 2 (2 ^ uu), ← Nat.pow_succ, ← Nat.pow_add]
    exact Nat.pow_le_pow_right (by decide) (by omega)
  have hT0 : 2 ^ uu * 2 ^ uu * (2 ^ nj * 2 ^ nj) ≤ sqs (fun i => V (mag (X i)) * 2 ^ (nj - e).toNat) n := by
    refine Nat.le_trans ?_ (sqs_ge (fun i => V (mag (X i)) * 2 ^ (nj - e).toNat) n i0 hi0)
    have h1 : 2 ^ uu * 2 ^ nj ≤ V (mag (X i0)) * 2 ^ (nj - e).toNat := by
      refine Nat.le_trans ?_ (Nat.mul_le_mul_right _ hm0)
      rw [← Nat.pow_add, ← Nat.pow_add]
      exact Nat.pow_le_pow_right (by decide) (by omega)
    have := Nat.mul_le_mul h1 h1
    rw [show 2 ^ uu * 2 ^ nj * (2 ^ uu * 2 ^ nj) = 2 ^ uu * 2 ^ uu * (2 ^ nj * 2 ^ nj) by rw [Nat.mul_assoc, Nat.mul_left_comm (2 ^ nj), ← Nat.mul_assoc]] at this
    exact this
  have hT1 : sqs (fun i => V (mag (X i)) * 2 ^ (nj - e).toNat) n ≤ n * (4 * (2 ^ uu * 2 ^ uu) * (2 ^ nj * 2 ^ nj)) := by
    refine Nat.le_trans (sqs_le _ _ n hb) (Nat.mul_le_mul_left n (Nat.le_of_eq ?_))
    generalize 2 ^ uu = z
    generalize 2 ^ nj = j
    rw [show 2 * z * j * (2 * z * j) = 2 * (2 * (z * z * (j * j))) by simp only [Nat.mul_comm, Nat.mul_left_comm, Nat.mul_assoc], Nat.mul_assoc 4]
    generalize z * z * (j * j) = q
    omega
  have hwp : 0 < 2 ^ nj * 2 ^ nj := Nat.mul_pos (Nat.two_pow_pos _) (Nat.two_pow_pos _)
  have hz104 : 2 ^ 104 ≤ 2 ^ uu := Nat.pow_le_pow_right (by decide) (by omega)
  have v0 := v_low _ _ _ _ _ hz104 hwp hT0 (by omega) s4
  have v1 : (sv s).toNat ≤ 2 ^ (uu + 100) := by
    refine Nat.le_trans (v_high _ _ _ _ _ n hn (Nat.two_pow_pos _) hwp hT1 (by omega) s3) ?_
    rw [show (8192 : Nat) = 2 ^ 13 by decide, ← Nat.pow_add]
    exact Nat.pow_le_pow_right (by decide) (by omega)
  -- its sign, its root
  have hsg : sgn s = false := by
    cases h : sgn s with
    | false => rfl
    | true =>
      exfalso
      unfold sv at s2
      rw [h, if_pos rfl] at s2
      omega
  have hV : (sv s).toNat = V (mag s) := by
    unfold sv
    rw [hsg, if_neg (by decide), Int.toNat_natCast]
  rw [hV] at s3 s4 v0 v1
  have hmz : mag s ≠ 0 := by
    intro h
    rw [sv_zero s h] at s2
    omega
  have hrt : r = ((rootN (V (mag s)) : Nat) : Int) := by
    obtain ⟨f1, f2⟩ := fin_facts s s1
    rw [hr]
    unfold sqrtS
    rw [f1, if_neg (by decide), if_neg (by rw [z_iff]; exact hmz), if_neg (fun h => by rw [h] at s1; exact absurd s1 (by decide)), hsg, if_neg (by decide)]
  obtain ⟨Y, y0, y1, y2, y3, y4⟩ := root_err _ v0 v1
  have hmr := (mag_nat (rootN (V (mag s))) (by omega)).1
  rw [← hrt] at hmr
  obtain ⟨g0, g1, g2⟩ := scale_near r e (by rw [hmr]; exact y0) (by omega) hf
  rw [← hg, hmr] at g1 g2
  rw [← hg] at g0
  have h5 := sqs_scale (fun i => V (mag (X i))) (2 ^ (nj - e).toNat) n
  have h6 : 2 ^ (nj + e).toNat * 2 ^ (nj - e).toNat = 2 ^ nj * 2 ^ nj := by
    rw [← Nat.pow_add, ← Nat.pow_add, show (nj + e).toNat + (nj - e).toNat = nj + nj by omega]
  refine ⟨g0, ?_, ?_⟩
  · exact chain_up (V (mag g)) (2 ^ nj) _ _ (V (rootN (V (mag s)))) 9007199254740992 9007199254740993 Y 81129638414606681695789005144064 81129638414606681695789005144065 _ _ _ _ _ (Nat.two_pow_pos _) (by decide) (by decide) (up1 _ _ _ g1) y1 y3 (sum_up _ _ _ _ s3) h5 h6 (cnst_up ⟨n, by omega⟩)
  · exact chain_low (V (mag g)) (2 ^ nj) _ _ (V (rootN (V (mag s)))) 9007199254740992 9007199254740991 Y 81129638414606681695789005144064 81129638414606681695789005144063 _ _ _ _ _ (Nat.two_pow_pos _) (by decide) (by decide) (low1 _ _ 9007199254740991 g2) y2 y4 (sum_low _ _ _ _ (by omega) s4) h5 h6 (cnst_low ⟨n, by omega⟩)
end Go.Proofs.Ytokgfeeaoioegaa
