/-
  A sum of squares of numbers from -2 to 2, reckoned one behind the other, against the sum of squares of what they were before they were divided. Conditions: at most 1000 numbers, one of them 1 at least.
-/
import Derived.Test.YtokgfeeaoioegaaNormM
namespace Go.Proofs.Ytokgfeeaoioegaa
set_option linter.unusedVariables false
set_option linter.unusedSimpArgs false

/-- The square of a number of at most 2. -/
theorem sq_prod (a : Int) (ha : mag a < 9218868437227405312) (hV : V (mag a) ≤ 2 ^ (uu + 1)) :
    (mulS a a).2 < 4 ∧ mag (mulS a a).1 < 9218868437227405312 ∧ V (mag (mulS a a).1) ≤ 2 ^ (uu + 2) ∧ (sv (mulS a a).1 * ((2 ^ uu : Nat) : Int) - sv a * sv a).natAbs * 9007199254740992 ≤ (sv a * sv a).natAbs + 2 ^ uu * 4503599627370496 := by
  have hu := uu_is
  have hB : V (mag a) * V (mag a) ≤ 2 ^ (uu + 2 + uu) := by
    refine Nat.le_trans (Nat.mul_le_mul hV hV) ?_
    rw [← Nat.pow_add]
    exact Nat.pow_le_pow_right (by decide) (by omega)
  have hfl := flag_pow _ (-2148) _ hB (by omega)
  have h2 : (mulS a a).2 < 4 := by rw [mulS_fin a a ha ha]; show ((flagP _ _ : Nat) : Int) < 4; omega
  obtain ⟨g1, g2⟩ := mul_low a a ha ha h2
  refine ⟨h2, g1, ?_, g2⟩
  have hVb := V_le_pow _ uu (uu + 2 + uu) (-2148) (by omega) (by omega) hB
  obtain ⟨p1, p2⟩ := num_pat _ _ hfl
  rw [← p1, show uu + 2 + uu - uu = uu + 2 by omega] at hVb
  rw [mulS_fin a a ha ha]
  show V (mag (sgnB _ + ((numP _ _ : Nat) : Int))) ≤ _
  rw [(sgn_mag _ _ (by rw [p1]; omega)).1]
  exact hVb
theorem sq_abs (u : Int) : (sv u * sv u).natAbs = V (mag u) * V (mag u) := by rw [Int.natAbs_mul, sv_abs]
theorem sq_int (u : Int) : sv u * sv u = ((V (mag u) * V (mag u) : Nat) : Int) := by rw [← sq_abs]; exact (Int.natAbs_mul_self' _ |> fun h => by rw [Int.natAbs_mul]; push_cast; exact h.symm)
theorem absP_le (u : Nat → Int) (n : Nat) (hV : ∀ i, i < n → V (mag (u i)) ≤ 2 ^ (uu + 1)) : absP u u n ≤ n * (2 ^ (uu + 2) * 2 ^ uu) := by
  induction n with
  | zero => simp [absP]
  | succ n ih =>
    have := ih (fun i hi => hV i (by omega))
    have h1 := Nat.mul_le_mul (hV n (by omega)) (hV n (by omega))
    rw [← Nat.pow_add, show uu + 1 + (uu + 1) = uu + 2 + uu by omega, Nat.pow_add] at h1
    unfold absP
    rw [sq_abs, Nat.add_mul, Nat.one_mul]
    omega
/-- Sums and squares are not too great. -/
theorem sq_sum (u : Nat → Int) : ∀ n, n ≤ 1000 → (∀ i, i < n → mag (u i) < 9218868437227405312) → (∀ i, i < n → V (mag (u i)) ≤ 2 ^ (uu + 1)) →
    mag (dotV u u n) < 9218868437227405312 ∧ (n = 0 ∨ (sv (dotV u u n) * ((2 ^ uu : Nat) : Int) - sumP u u n).natAbs * 9007199254740992 ≤ (2 * n - 1) * absP u u n + 3 * n * (2 ^ uu * 4503599627370496)) ∧ ∀ i, i < n → (addS (dotV u u i) (mulS (u i) (u i)).1).2 < 4
  | 0, _, _, _ => ⟨by show mag 0 < _; decide, .inl rfl, fun i hi => absurd hi (Nat.not_lt_zero _)⟩
  | k + 1, hn, hf, hV => by
    have hu := uu_is
    obtain ⟨j1, j2, j3⟩ := sq_sum u k (by omega) (fun i hi => hf i (by omega)) (fun i hi => hV i (by omega))
    have hP := sq_prod (u k) (hf k (by omega)) (hV k (by omega))
    have hd : (sv (dotV u u k)).natAbs ≤ 2 ^ (uu + 14) := by
      rcases j2 with rfl | j2
      · show (sv 0).natAbs ≤ _
        rw [sv_zero 0 (by decide)]
        exact Nat.zero_le _
      · have ha := absP_le u k (fun i hi => hV i (by omega))
        have hs := sum_abs u u k
        have a1 : (sv (dotV u u k) * ((2 ^ uu : Nat) : Int) - sumP u u k).natAbs ≤ absP u u k + 2 ^ uu * 4503599627370496 := by
          refine Nat.le_of_mul_le_mul_right (Nat.le_trans j2 ?_) (show 0 < 9007199254740992 by decide)
          rw [Nat.add_mul, Nat.mul_comm (absP u u k), Nat.mul_comm (2 ^ uu * 4503599627370496)]
          exact Nat.add_le_add (Nat.mul_le_mul_right _ (by omega)) (Nat.mul_le_mul_right _ (by omega))
        have a2 : (sv (dotV u u k) * ((2 ^ uu : Nat) : Int)).natAbs ≤ 2 * absP u u k + 2 ^ uu * 4503599627370496 := by omega
        rw [Int.natAbs_mul, Int.natAbs_natCast] at a2
        refine Nat.le_of_mul_le_mul_right (Nat.le_trans a2 ?_) (Nat.two_pow_pos uu)
        have b1 : 2 * absP u u k ≤ 2 ^ (uu + 13) * 2 ^ uu := by
          have : 2 * absP u u k ≤ 2048 * (2 ^ (uu + 2) * 2 ^ uu) := by
            have := Nat.mul_le_mul_right (2 ^ (uu + 2) * 2 ^ uu) (show k ≤ 1024 by omega)
            omega
          refine Nat.le_trans this ?_
          rw [show (2048 : Nat) = 2 ^ 11 by decide, ← Nat.mul_assoc, ← Nat.pow_add, show 11 + (uu + 2) = uu + 13 by omega]
          exact Nat.le_refl _
        have b2 : 2 ^ uu * 4503599627370496 ≤ 2 ^ (uu + 13) * 2 ^ uu := by
          rw [Nat.mul_comm, show (4503599627370496 : Nat) = 2 ^ 52 by decide]
          exact Nat.mul_le_mul_right _ (Nat.pow_le_pow_right (by decide) (by omega))
        rw [show uu + 14 = uu + 13 + 1 by omega, Nat.pow_succ (n := 2) (m := uu + 13), Nat.mul_comm (2 ^ (uu + 13)) 2, Nat.mul_assoc, Nat.two_mul (2 ^ (uu + 13) * 2 ^ uu)]
        exact Nat.add_le_add b1 b2
    have hA : ∀ i, i < k + 1 → (addS (dotV u u i) (mulS (u i) (u i)).1).2 < 4 := by
      intro i hi
      by_cases hik : i = k
      · subst hik
        rw [addS_fin _ _ j1 hP.2.1]
        split
        · exact (by decide : (0 : Int) < 4)
        · have hsum : (sv (dotV u u i) + sv (mulS (u i) (u i)).1).natAbs ≤ 2 ^ (uu + 15) := by
            have h1 : (sv (mulS (u i) (u i)).1).natAbs ≤ 2 ^ (uu + 14) := by rw [sv_abs]; exact Nat.le_trans hP.2.2.1 (Nat.pow_le_pow_right (by decide) (by omega))
            rw [show uu + 15 = uu + 14 + 1 by omega, Nat.pow_succ]
            omega
          have := flag_pow _ (-1074) _ hsum (by omega)
          show ((flagP _ _ : Nat) : Int) < 4
          omega
      · exact j3 i (by omega)
    obtain ⟨g1, g2⟩ := dot_gen u u (2 ^ uu * 4503599627370496) (k + 1) (by omega) (fun i hi => let h := sq_prod (u i) (hf i hi) (hV i hi); ⟨h.2.1, h.2.2.2⟩) hA
    exact ⟨g1, g2, hA⟩
/-- The sum of squares. -/
def sqs (f : Nat → Nat) : Nat → Nat
  | 0 => 0
  | k + 1 => sqs f k + f k * f k
theorem sqs_ge (f : Nat → Nat) (n i : Nat) (h : i < n) : f i * f i ≤ sqs f n := by
  induction n with
  | zero => omega
  | succ n ih =>
    unfold sqs
    by_cases g : i = n
    · subst g; omega
    · have := ih (by omega); omega
theorem sqs_scale (f : Nat → Nat) (c n : Nat) : sqs (fun i => f i * c) n = sqs f n * (c * c) := by
  induction n with
  | zero => simp [sqs]
  | succ n ih =>
    unfold sqs
    rw [ih, Nat.add_mul, show f n * c * (f n * c) = f n * f n * (c * c) by rw [Nat.mul_assoc, Nat.mul_left_comm c, ← Nat.mul_assoc]]
theorem absP_sqs (u : Nat → Int) (n : Nat) : absP u u n = sqs (fun i => V (mag (u i))) n ∧ sumP u u n = ((sqs (fun i => V (mag (u i))) n : Nat) : Int) := by
  induction n with
  | zero => exact ⟨rfl, rfl⟩
  | succ n ih =>
    unfold absP sumP sqs
    rw [ih.1, ih.2, sq_abs, sq_int]
    exact ⟨rfl, by push_cast; rfl⟩
/-- Near numbers, each with h besides, of at most b: their sums of squares. -/
theorem sqs_err (U b h : Nat) (B y : Nat → Nat) (hU : 1 ≤ U) : ∀ n, (∀ i, i < n → B i ≤ b) → (∀ i, i < n → y i * U ≤ B i * U + (B i + h) ∧ B i * U ≤ y i * U + (B i + h)) →
    sqs y n * U ≤ sqs B n * U + (3 * sqs B n + n * (4 * b * h + h * h)) ∧ sqs B n * U ≤ sqs y n * U + (3 * sqs B n + n * (4 * b * h + h * h))
  | 0, _, _ => by simp [sqs]
  | k + 1, hb, hy => by
    obtain ⟨i1, i2⟩ := sqs_err U b h B y hU k (fun i hi => hb i (by omega)) (fun i hi => hy i (by omega))
    obtain ⟨s1, s2⟩ := sq_err U (B k) (y k) h hU (hy k (by omega)).1 (hy k (by omega)).2
    have e : (B k + h) * (3 * B k + h) ≤ 3 * (B k * B k) + (4 * b * h + h * h) := by
      have e1 : (B k + h) * (3 * B k + h) = 3 * (B k * B k) + (4 * (B k * h) + h * h) := by
        rw [Nat.add_mul, Nat.mul_add, Nat.mul_add, Nat.mul_left_comm (B k) 3, Nat.mul_left_comm h 3, Nat.mul_comm h (B k)]
        omega
      have e2 : B k * h ≤ b * h := Nat.mul_le_mul_right _ (hb k (by omega))
      rw [e1, Nat.mul_assoc 4 b h]
      omega
    unfold sqs
    rw [Nat.add_mul, Nat.add_mul, Nat.add_mul k 1]
    generalize B k * B k * U = p1 at *
    generalize y k * y k * U = p2 at *
    generalize sqs B k * U = p3 at *
    generalize sqs y k * U = p4 at *
    generalize (B k + h) * (3 * B k + h) = p5 at *
    generalize 4 * b * h + h * h = p6 at *
    generalize k * p6 = p7 at *
    omega
end Go.Proofs.Ytokgfeeaoioegaa
