/-
  How far a root of a sum of squares, reckoned as layer 10 says, lies from the exact one: within (n + 4) 2^-53. Conditions: at most 1000 finite numbers, not all nought; what is scaled back is neither too great nor too small.
-/
import Derived.Test.YtokgfeeaoioegaaNormS
namespace Go.Proofs.Ytokgfeeaoioegaa
set_option linter.unusedVariables false
set_option linter.unusedSimpArgs false

theorem tiny_a (n z w T : Nat) (hn : n ≤ 1000) (hz : 20282409603651670423947251286016 ≤ z) (hT : z * z * w ≤ T) : 4 * (3 * n * (z * 4503599627370496) * w) ≤ T := by
  refine Nat.le_trans ?_ hT
  rw [← Nat.mul_assoc 4]
  refine Nat.mul_le_mul_right w ?_
  rw [← Nat.mul_assoc 4, show 4 * (3 * n) * (z * 4503599627370496) = (4 * (3 * n) * 4503599627370496) * z by simp only [Nat.mul_comm, Nat.mul_left_comm, Nat.mul_assoc]]
  exact Nat.mul_le_mul_right z (by omega)
theorem tiny_b (n z J T : Nat) (hn : n ≤ 1000) (hz : 20282409603651670423947251286016 ≤ z) (hT : z * z * (J * J) ≤ T) : 4 * (n * (4 * (2 * z * J) * (J * 4503599627370496) + J * 4503599627370496 * (J * 4503599627370496))) ≤ T := by
  refine Nat.le_trans ?_ hT
  have e1 : 4 * (2 * z * J) * (J * 4503599627370496) = 36028797018963968 * z * (J * J) := by
    rw [show 4 * (2 * z * J) * (J * 4503599627370496) = 4 * (2 * (4503599627370496 * (z * (J * J)))) by simp only [Nat.mul_comm, Nat.mul_left_comm, Nat.mul_assoc]]
    rw [Nat.mul_assoc 36028797018963968]
    generalize z * (J * J) = q
    omega
  have e2 : J * 4503599627370496 * (J * 4503599627370496) = 20282409603651670423947251286016 * (J * J) := by
    rw [show J * 4503599627370496 * (J * 4503599627370496) = 4503599627370496 * (4503599627370496 * (J * J)) by simp only [Nat.mul_comm, Nat.mul_left_comm, Nat.mul_assoc]]
    generalize J * J = q
    omega
  rw [e1, e2, ← Nat.add_mul, ← Nat.mul_assoc n, ← Nat.mul_assoc 4]
  refine Nat.mul_le_mul_right _ ?_
  have h1 : 36028797018963968 * z + 20282409603651670423947251286016 ≤ 36028797018963969 * z := by omega
  refine Nat.le_trans (Nat.mul_le_mul_left 4 (Nat.mul_le_mul hn h1)) ?_
  rw [← Nat.mul_assoc, ← Nat.mul_assoc]
  exact Nat.mul_le_mul_right z (by omega)
theorem four_t (T y : Nat) (h : 4 * y ≤ T) : 3 * T + y ≤ 4 * T := by omega
theorem fin_lin (TU T y1 y2 mQ mT Ew QU DU : Nat) (q1 : QU ≤ TU + (3 * T + y2)) (q2 : TU ≤ QU + (3 * T + y2)) (t1 : 4 * y1 ≤ T) (t2 : 4 * y2 ≤ T) (c1 : DU ≤ QU + Ew) (c2 : QU ≤ DU + Ew) (c3 : Ew ≤ mQ + y1) (c4 : 2 * mQ ≤ 2 * mT + T) : DU ≤ TU + (mT + 4 * T) ∧ TU ≤ DU + (mT + 4 * T) := by omega
theorem sum_chain (n z J a T : Nat) (D : Int) (n1 : 1 ≤ n) (hn : n ≤ 1000) (hJ : 0 < J) (hz : 20282409603651670423947251286016 ≤ z) (hT : z * z * (J * J) ≤ T)
    (q1 : a * (J * J) * 9007199254740992 ≤ T * 9007199254740992 + (3 * T + n * (4 * (2 * z * J) * (J * 4503599627370496) + J * 4503599627370496 * (J * 4503599627370496))))
    (q2 : T * 9007199254740992 ≤ a * (J * J) * 9007199254740992 + (3 * T + n * (4 * (2 * z * J) * (J * 4503599627370496) + J * 4503599627370496 * (J * 4503599627370496))))
    (hD : (D - (a : Int)).natAbs * 9007199254740992 ≤ (2 * n - 1) * a + 3 * n * (z * 4503599627370496)) :
    0 < D ∧ D.toNat * (J * J) * 9007199254740992 ≤ T * 9007199254740992 + (2 * n + 3) * T ∧ T * 9007199254740992 ≤ D.toNat * (J * J) * 9007199254740992 + (2 * n + 3) * T := by
  have t1 := tiny_a n z (J * J) T hn hz hT
  have t2 := tiny_b n z J T hn hz hT
  have hw : 0 < J * J := Nat.mul_pos hJ hJ
  generalize n * (4 * (2 * z * J) * (J * 4503599627370496) + J * 4503599627370496 * (J * 4503599627370496)) = y2 at *
  generalize hw2 : J * J = w at *
  have hTp : 0 < T := Nat.lt_of_lt_of_le (Nat.mul_pos (Nat.mul_pos (by omega) (by omega)) hw) hT
  have ha1 : T ≤ 2 * (a * w) := by
    generalize a * w = Q at *
    omega
  have ha2 : 2 * (3 * n * (z * 4503599627370496)) ≤ a := by
    refine Nat.le_of_mul_le_mul_right ?_ hw
    rw [Nat.mul_assoc 2]
    generalize 3 * n * (z * 4503599627370496) * w = y1 at *
    generalize a * w = Q at *
    omega
  have hap : 0 < a := by
    refine Nat.pos_of_ne_zero fun h => ?_
    rw [h, Nat.zero_mul] at ha1
    omega
  -- the bound of D, and its sign
  generalize hm : 2 * n - 1 = m at *
  have hm1 : m ≤ 2000 := by omega
  have hE : (D - (a : Int)).natAbs * 9007199254740992 ≤ (m + 1) * a := by
    refine Nat.le_trans hD ?_
    rw [Nat.add_mul, Nat.one_mul]
    generalize 3 * n * (z * 4503599627370496) = y1 at *
    omega
  have hD0 : 0 < D := by
    refine Int.lt_of_not_ge fun g => ?_
    have h1 : a ≤ (D - (a : Int)).natAbs := by omega
    have h2 := Nat.le_trans (Nat.mul_le_mul_right 9007199254740992 h1) hE
    rw [Nat.mul_comm a] at h2
    have := Nat.le_of_mul_le_mul_right h2 hap
    omega
  refine ⟨hD0, ?_⟩
  obtain ⟨d, rfl⟩ : ∃ d : Nat, D = (d : Int) := ⟨D.toNat, by omega⟩
  rw [Int.toNat_natCast]
  generalize hEE : ((d : Int) - (a : Int)).natAbs = E at *
  have b1 : d ≤ a + E := by omega
  have b2 : a ≤ d + E := by omega
  -- times w
  have c1 := Nat.mul_le_mul_right (w * 9007199254740992) b1
  have c2 := Nat.mul_le_mul_right (w * 9007199254740992) b2
  have c3 := Nat.mul_le_mul_right w hD
  have e1 : E * 9007199254740992 * w = E * (w * 9007199254740992) := by rw [Nat.mul_assoc, Nat.mul_comm 9007199254740992]
  rw [Nat.add_mul, ← Nat.mul_assoc, ← Nat.mul_assoc] at c1 c2
  rw [e1, Nat.add_mul] at c3
  have c4 : 2 * (m * (a * w)) ≤ 2 * (m * T) + T := by
    have k1 : a * w * 9007199254740992 ≤ T * 9007199254740992 + 4 * T := Nat.le_trans q1 (Nat.add_le_add_left (four_t T y2 t2) _)
    refine Nat.le_of_mul_le_mul_right ?_ (show 0 < 9007199254740992 by decide)
    have k2 := Nat.mul_le_mul_left (2 * m) k1
    rw [Nat.mul_add] at k2
    have k3 : 2 * m * (4 * T) ≤ T * 9007199254740992 := by
      rw [← Nat.mul_assoc, Nat.mul_comm T]
      exact Nat.mul_le_mul_right T (by omega)
    rw [show 2 * (m * (a * w)) * 9007199254740992 = 2 * m * (a * w * 9007199254740992) by rw [← Nat.mul_assoc, Nat.mul_assoc], Nat.add_mul, show 2 * (m * T) * 9007199254740992 = 2 * m * (T * 9007199254740992) by rw [← Nat.mul_assoc, Nat.mul_assoc]]
    omega
  have e2 : (2 * n + 3) * T = m * T + 4 * T := by rw [show 2 * n + 3 = m + 4 by omega, Nat.add_mul]
  have e3 : m * a * w = m * (a * w) := Nat.mul_assoc _ _ _
  rw [e3] at c3
  rw [e2]
  exact fin_lin _ _ _ _ _ _ _ _ _ q1 q2 t1 t2 c1 c2 c3 c4
/-- The sum of squares of numbers divided by 2^e, against the exact one. -/
theorem norm_sum (X : Nat → Int) (e : Int) (n : Nat) (hn : n ≤ 1000) (fx : ∀ i, i < n → mag (X i) < 9218868437227405312) (e0 : -1074 ≤ e) (e1 : e ≤ 1023) (hle : ∀ i, i < n → V (mag (X i)) ≤ 2 ^ (e + 1075).toNat) (hmax : ∃ i, i < n ∧ 2 ^ (e + 1074).toNat ≤ V (mag (X i))) :
    mag (dotV (fun i => (scaleS (X i) (-e)).1) (fun i => (scaleS (X i) (-e)).1) n) < 9218868437227405312 ∧ 0 < sv (dotV (fun i => (scaleS (X i) (-e)).1) (fun i => (scaleS (X i) (-e)).1) n) ∧
    (sv (dotV (fun i => (scaleS (X i) (-e)).1) (fun i => (scaleS (X i) (-e)).1) n)).toNat * 2 ^ uu * (2 ^ nj * 2 ^ nj) * 9007199254740992 ≤ sqs (fun i => V (mag (X i)) * 2 ^ (nj - e).toNat) n * 9007199254740992 + (2 * n + 3) * sqs (fun i => V (mag (X i)) * 2 ^ (nj - e).toNat) n ∧
    sqs (fun i => V (mag (X i)) * 2 ^ (nj - e).toNat) n * 9007199254740992 ≤ (sv (dotV (fun i => (scaleS (X i) (-e)).1) (fun i => (scaleS (X i) (-e)).1) n)).toNat * 2 ^ uu * (2 ^ nj * 2 ^ nj) * 9007199254740992 + (2 * n + 3) * sqs (fun i => V (mag (X i)) * 2 ^ (nj - e).toNat) n := by
  have hu := uu_is
  have hj := nj_is
  obtain ⟨i0, hi0, hm0⟩ := hmax
  have hL := fun i hi => scale_low (X i) e (fx i hi) e0 e1 (hle i hi)
  generalize hu' : (fun i => (scaleS (X i) (-e)).1) = u at *
  have hui : ∀ i, (scaleS (X i) (-e)).1 = u i := fun i => by rw [← hu']
  simp only [hui] at hL
  obtain ⟨s1, s2, _⟩ := sq_sum u n hn (fun i hi => (hL i hi).1) (fun i hi => (hL i hi).2.1)
  have s2 := s2.resolve_left (by omega)
  obtain ⟨a1, a2⟩ := absP_sqs u n
  rw [a1, a2] at s2
  have hb : ∀ i, i < n → V (mag (X i)) * 2 ^ (nj - e).toNat ≤ 2 * 2 ^ uu * 2 ^ nj := by
    intro i hi
    refine Nat.le_trans (Nat.mul_le_mul_right _ (hle i hi)) ?_
    rw [← Nat.pow_add, Nat.mul_comm 2 (2 ^ uu), ← Nat.pow_succ, ← Nat.pow_add]
    exact Nat.pow_le_pow_right (by decide) (by omega)
  obtain ⟨q1, q2⟩ := sqs_err 9007199254740992 (2 * 2 ^ uu * 2 ^ nj) (2 ^ nj * 4503599627370496) (fun i => V (mag (X i)) * 2 ^ (nj - e).toNat) (fun i => V (mag (u i)) * 2 ^ nj) (by decide) n hb (fun i hi => ⟨(hL i hi).2.2.1, (hL i hi).2.2.2⟩)
  rw [sqs_scale (fun i => V (mag (u i)))] at q1 q2
  have hT : 2 ^ uu * 2 ^ uu * (2 ^ nj * 2 ^ nj) ≤ sqs (fun i => V (mag (X i)) * 2 ^ (nj - e).toNat) n := by
    refine Nat.le_trans ?_ (sqs_ge (fun i => V (mag (X i)) * 2 ^ (nj - e).toNat) n i0 hi0)
    have h1 : 2 ^ uu * 2 ^ nj ≤ V (mag (X i0)) * 2 ^ (nj - e).toNat := by
      refine Nat.le_trans ?_ (Nat.mul_le_mul_right _ hm0)
      rw [← Nat.pow_add, ← Nat.pow_add]
      exact Nat.pow_le_pow_right (by decide) (by omega)
    have := Nat.mul_le_mul h1 h1
    rw [show 2 ^ uu * 2 ^ nj * (2 ^ uu * 2 ^ nj) = 2 ^ uu * 2 ^ uu * (2 ^ nj * 2 ^ nj) by rw [Nat.mul_assoc, Nat.mul_left_comm (2 ^ nj), ← Nat.mul_assoc]] at this
    exact this
  have hz : 20282409603651670423947251286016 ≤ 2 ^ uu := by
    rw [show (20282409603651670423947251286016 : Nat) = 2 ^ 104 by decide]
    exact Nat.pow_le_pow_right (by decide) (by omega)
  obtain ⟨g1, g2, g3⟩ := sum_chain n (2 ^ uu) (2 ^ nj) (sqs (fun i => V (mag (u i))) n) (sqs (fun i => V (mag (X i)) * 2 ^ (nj - e).toNat) n) (sv (dotV u u n) * ((2 ^ uu : Nat) : Int)) (by omega) hn (Nat.two_pow_pos _) hz hT q1 q2 s2
  have hpos : 0 < sv (dotV u u n) := by
    refine Int.lt_of_not_ge fun g => ?_
    have := Int.mul_nonpos_of_nonpos_of_nonneg g (Int.natCast_nonneg (2 ^ uu))
    omega
  have hd : (sv (dotV u u n) * ((2 ^ uu : Nat) : Int)).toNat = (sv (dotV u u n)).toNat * 2 ^ uu := by
    obtain ⟨d, hd⟩ : ∃ d : Nat, sv (dotV u u n) = (d : Int) := ⟨(sv (dotV u u n)).toNat, by omega⟩
    rw [hd, ← Int.natCast_mul, Int.toNat_natCast, Int.toNat_natCast]
  rw [hd] at g2 g3
  exact ⟨s1, hpos, g2, g3⟩
end Go.Proofs.Ytokgfeeaoioegaa
