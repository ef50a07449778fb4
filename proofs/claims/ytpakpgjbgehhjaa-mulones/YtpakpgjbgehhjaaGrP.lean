/-
  Texts put together: NrmL PowL.
-/
import Derived.Test.YtpakpgjbgehhjaaProg
import Derived.Test.YtpakpgjbgehhjaaGrI
import Derived.Test.YtpakpgjbgehhjaaGrB
import Derived.Test.YtpakpgjbgehhjaaGrO
import Derived.Test.YtpakpgjbgehhjaaGrM
/-
  What Nrm2 returns, told as the law VecNorms wants it. Conditions: at most 60 numbers.
-/
namespace Go.Proofs.Ytpakpgjbgehhjaa
open Go.RowKit
set_option linter.unusedVariables false

theorem greatB_zero {X : Nat → Int} {n : Nat} {B t : Int} (h : Great n X B t) (hz : ∀ i, i < n → mag (X i) = 0) : B = 0 := by
  rcases h with ⟨k, hk, hn, _, _⟩ | ⟨_, ⟨_, h2, _⟩ | ⟨j, _, hj, hB, _⟩⟩
  · have := hz k hk
    unfold isNan at hn
    rw [this] at hn
    simp at hn
  · omega
  · have := hz j (by omega)
    unfold mag at this
    omega
/-- The inequality of the law, over whole numbers. -/
def Norm2 (X : Nat → Int) (n : Nat) (r : Int) : Prop :=
  mag r < 9218868437227405312 ∧ V (mag r) * V (mag r) * (9007199254740992 * 9007199254740992) ≤ sqs (fun i => V (mag (X i))) n * ((9007199254740992 + (n + 4)) * (9007199254740992 + (n + 4))) ∧
    sqs (fun i => V (mag (X i))) n * ((9007199254740992 - (n + 4)) * (9007199254740992 - (n + 4))) ≤ V (mag r) * V (mag r) * (9007199254740992 * 9007199254740992)
theorem sqs_zero (f : Nat → Nat) (n : Nat) (h : ∀ i, i < n → f i = 0) : sqs f n = 0 := by
  induction n with
  | zero => rfl
  | succ n ih =>
    show sqs f n + f n * f n = 0
    rw [ih (fun i hi => h i (by omega)), h n (by omega)]
theorem or_zero_l (F : Int) (h0 : 0 ≤ F) (h1 : F < 256) : bits .or .u8 0 F = F := by
  obtain ⟨f, rfl⟩ := Int.eq_ofNat_of_zero_le h0
  have := or_u8 0 f (by decide) (by omega)
  rw [Nat.zero_or] at this
  exact this
theorem norms_lo (x : Int) (G S n : Nat) (hx : x * x = (G : Int) * (G : Int) * 268435456) (hn : n ≤ 40) (h : S * ((9007199254740992 - (n + 4)) * (9007199254740992 - (n + 4))) ≤ G * G * (9007199254740992 * 9007199254740992)) :
    (S : Int) * 268435456 * (18446744073709551616 - ((n : Int) + 4) * 2048) * (18446744073709551616 - ((n : Int) + 4) * 2048) ≤ x * x * pw 2 := by
  obtain ⟨d, hd⟩ : ∃ d, 9007199254740992 - (n + 4) = d := ⟨_, rfl⟩
  have e : (18446744073709551616 : Int) - ((n : Int) + 4) * 2048 = (d : Int) * 2048 := by omega
  rw [hd] at h
  rw [hx, e, show pw 2 = 340282366920938463463374607431768211456 by decide]
  have k1 : (S : Int) * 268435456 * ((d : Int) * 2048) * ((d : Int) * 2048) = ((S * (d * d) : Nat) : Int) * 1125899906842624 := by
    rw [Int.natCast_mul, Int.natCast_mul]
    grind
  have k2 : (G : Int) * (G : Int) * 268435456 * 340282366920938463463374607431768211456 = ((G * G * (9007199254740992 * 9007199254740992) : Nat) : Int) * 1125899906842624 := by
    rw [Int.natCast_mul, Int.natCast_mul]
    generalize (G : Int) * (G : Int) = T
    omega
  rw [k1, k2]
  generalize S * (d * d) = P at h ⊢
  generalize G * G * (9007199254740992 * 9007199254740992) = Q at h ⊢
  omega
theorem norms_hi (x : Int) (G S n : Nat) (hx : x * x = (G : Int) * (G : Int) * 268435456) (h : G * G * (9007199254740992 * 9007199254740992) ≤ S * ((9007199254740992 + (n + 4)) * (9007199254740992 + (n + 4)))) :
    x * x * pw 2 ≤ (S : Int) * 268435456 * (18446744073709551616 + ((n : Int) + 4) * 2048) * (18446744073709551616 + ((n : Int) + 4) * 2048) := by
  obtain ⟨d, hd⟩ : ∃ d, 9007199254740992 + (n + 4) = d := ⟨_, rfl⟩
  have e : (18446744073709551616 : Int) + ((n : Int) + 4) * 2048 = (d : Int) * 2048 := by omega
  rw [hd] at h
  rw [hx, e, show pw 2 = 340282366920938463463374607431768211456 by decide]
  have k1 : (S : Int) * 268435456 * ((d : Int) * 2048) * ((d : Int) * 2048) = ((S * (d * d) : Nat) : Int) * 1125899906842624 := by
    rw [Int.natCast_mul, Int.natCast_mul]
    grind
  have k2 : (G : Int) * (G : Int) * 268435456 * 340282366920938463463374607431768211456 = ((G * G * (9007199254740992 * 9007199254740992) : Nat) : Int) * 1125899906842624 := by
    rw [Int.natCast_mul, Int.natCast_mul]
    generalize (G : Int) * (G : Int) = T
    omega
  rw [k1, k2]
  generalize S * (d * d) = P at h ⊢
  generalize G * G * (9007199254740992 * 9007199254740992) = Q at h ⊢
  omega
theorem xv_sq (x : Int) (h : mag x < 9218868437227405312) : xv x * xv x = ((V (mag x) : Nat) : Int) * ((V (mag x) : Nat) : Int) * 268435456 := by
  rw [xv_mul x x h h]
  unfold sv
  generalize ((V (mag x) : Nat) : Int) = T
  split <;> grind
end Go.Proofs.Ytpakpgjbgehhjaa

/-
  Powers of two beyond all bounds; two lists of the same numbers are the same; the greatest of some numbers, exactly. No conditions.
-/
namespace Go.Proofs.Ytpakpgjbgehhjaa
open Go.RowKit
set_option linter.unusedVariables false

theorem scaleV_parts (a n : Int) (hf : mag a < 9218868437227405312) : numP (V (mag a)) (n - 1074) = numP (wMant a).toNat (wPow a + n) ∧ flagP (V (mag a)) (n - 1074) = flagP (wMant a).toNat (wPow a + n) := by
  obtain ⟨h1, h2, h3, h4⟩ := parts_bd a
  rw [parts_V a hf, numP_scale, flagP_scale, show n - 1074 + ((wPow a + 1074).toNat : Int) = wPow a + n by omega]
  exact ⟨rfl, rfl⟩
theorem scale_clamp (a n : Int) : scaleS a (min (max n (-20000)) 20000) = scaleS a n := by
  unfold scaleS
  by_cases h1 : isNan a
  · rw [if_pos h1, if_pos h1]
  · rw [if_neg h1, if_neg h1]
    by_cases h2 : (isInf a || isZ a) = true
    · rw [if_pos h2, if_pos h2]
    · rw [if_neg h2, if_neg h2]
      have hf : mag a < 9218868437227405312 := by
        unfold isNan isInf isZ at *
        simp at h1 h2
        omega
      have hz : 0 < mag a := by
        unfold isInf isZ at h2
        simp at h2
        omega
      obtain ⟨q1, q2⟩ := scaleV_parts a n hf
      obtain ⟨r1, r2⟩ := scaleV_parts a (min (max n (-20000)) 20000) hf
      obtain ⟨p1, p2, p3, p4⟩ := parts_bd a
      have hm : 0 < (wMant a).toNat := by
        rcases Nat.eq_zero_or_pos (wMant a).toNat with e | e
        · have := parts_V a hf
          rw [e, Nat.zero_mul] at this
          have h0 := V_lt 0 (mag a) hz
          omega
        · exact e
      obtain ⟨c1, c2⟩ := num_clamp (wMant a).toNat (wPow a) n 20000 hm (by omega) p3 p4 (by omega)
      rw [q1, q2, r1, r2, c1, c2]
theorem unit_clamp (X : Nat → Int) (n : Int) (i : Nat) : unitS X (max n (-9223372036854775807)) i = (scaleS (X i) (-(min (max n (-20000)) 20000))).1 := by
  unfold unitS
  rw [← scale_clamp (X i) (-(max n (-9223372036854775807)))]
  congr 2
  omega
theorem scale_none (a : Int) (h0 : 0 ≤ a) (h1 : a < 18446744073709551616) (hf : mag a < 9218868437227405312) : (scaleS a 0).1 = a := by
  have hn : isNan a = false := by unfold isNan; simp; omega
  unfold scaleS
  rw [hn]
  simp only [Bool.false_eq_true, if_false]
  by_cases h2 : (isInf a || isZ a) = true
  · rw [if_pos h2]
  · rw [if_neg h2]
    show sgnB (sgn a) + ((numP (V (mag a)) (0 - 1074) : Nat) : Int) = a
    rw [show (0 : Int) - 1074 = -1074 by decide, (num_V _ hf).1]
    exact (whole_sign a h0 h1).symm
theorem one_times (a : Int) (h0 : 0 ≤ a) (h1 : a < 18446744073709551616) (hf : mag a < 9218868437227405312) : (mulS 4607182418800017408 a).1 = a := by
  rw [mulS_comm, mul_one' a h0 h1 hf]
/-- The greatest without signs, times 2^1088. -/
def mxv (X : Nat → Int) : Nat → Int
  | 0 => 0
  | k + 1 => if mxv X k < ((xv (X k)).natAbs : Int) then ((xv (X k)).natAbs : Int) else mxv X k
theorem mxv_ge (X : Nat → Int) (n i : Nat) (h : i < n) : ((xv (X i)).natAbs : Int) ≤ mxv X n := by
  induction n with
  | zero => omega
  | succ n ih =>
    show _ ≤ if mxv X n < ((xv (X n)).natAbs : Int) then ((xv (X n)).natAbs : Int) else mxv X n
    rcases Nat.lt_or_ge i n with g | g
    · have := ih g
      split <;> omega
    · rw [show i = n by omega]
      split <;> omega
theorem mxv_is (X : Nat → Int) (n : Nat) : mxv X n = 0 ∨ ∃ i, i < n ∧ mxv X n = ((xv (X i)).natAbs : Int) := by
  induction n with
  | zero => exact .inl rfl
  | succ n ih =>
    show (if mxv X n < ((xv (X n)).natAbs : Int) then ((xv (X n)).natAbs : Int) else mxv X n) = 0 ∨ ∃ i, i < n + 1 ∧ (if mxv X n < ((xv (X n)).natAbs : Int) then ((xv (X n)).natAbs : Int) else mxv X n) = _
    split
    · exact .inr ⟨n, by omega, rfl⟩
    · rcases ih with e | ⟨i, hi, e⟩
      · exact .inl e
      · exact .inr ⟨i, by omega, e⟩
theorem mxv_nonneg (X : Nat → Int) (n : Nat) : 0 ≤ mxv X n := by
  rcases mxv_is X n with e | ⟨i, _, e⟩ <;> omega
theorem xv_abs (x : Int) (hf : mag x < 9218868437227405312) : ((xv x).natAbs : Int) = ((V (mag x) * 16384 : Nat) : Int) := by
  unfold xv
  rw [if_pos hf, Int.natAbs_mul]
  unfold sv
  split <;> simp <;> omega
theorem mxv_zero {X : Nat → Int} {n : Nat} (h : ∀ i, i < n → mag (X i) = 0) : mxv X n = 0 := by
  rcases mxv_is X n with e | ⟨i, hi, e⟩
  · exact e
  · rw [e, xv_abs _ (by rw [h i hi]; decide), h i hi]
    rfl
theorem two_up (u k : Nat) (e : Int) (hu : u = 1074) (hk : k = 14) (h : -1074 ≤ e) : (2 : Nat) ^ (e + 64 * 17).toNat = 2 ^ (e + u).toNat * 2 ^ k := by
  rw [← Nat.pow_add]
  congr 1
  omega
theorem mxv_pow {X : Nat → Int} {n : Nat} {e : Int} (h : IsPow X n e) (hf : FinX X n) : ((2 ^ (e + 64 * 17).toNat : Nat) : Int) ≤ mxv X n ∧ mxv X n < ((2 ^ (e + 1 + 64 * 17).toNat : Nat) : Int) := by
  obtain ⟨h1, h2, h3, i, hi, h4⟩ := h
  rw [two_up 1074 14 e rfl rfl h1, two_up 1074 14 (e + 1) rfl rfl (by omega)]
  constructor
  · have := mxv_ge X n i hi
    rw [xv_abs _ (hf i hi)] at this
    rw [show (e + ((1074 : Nat) : Int)) = e + 1074 from rfl]
    have k : 2 ^ (e + 1074).toNat * 2 ^ 14 ≤ V (mag (X i)) * 16384 := Nat.mul_le_mul_right _ h4
    exact Int.le_trans (Int.ofNat_le.2 k) this
  · rcases mxv_is X n with e0 | ⟨j, hj, e0⟩
    · rw [e0]
      have := Nat.mul_pos (Nat.two_pow_pos (e + 1 + ((1074 : Nat) : Int)).toNat) (Nat.two_pow_pos 14)
      exact Int.ofNat_lt.2 this
    · rw [e0, xv_abs _ (hf j hj), show (e + 1 + ((1074 : Nat) : Int)) = e + 1075 by omega]
      have k : V (mag (X j)) * 16384 < 2 ^ (e + 1075).toNat * 2 ^ 14 := Nat.mul_lt_mul_of_pos_right (h3 j hj) (by decide)
      exact Int.ofNat_lt.2 k
theorem cmp_gt (X Y : Int) : (Y < X → cmpZ X Y = 1) ∧ (¬ Y < X → cmpZ X Y ≤ 0) := by
  unfold cmpZ
  constructor
  · intro h; rw [if_neg (by omega), if_neg (by omega)]
  · intro h
    repeat' split
    all_goals omega
end Go.Proofs.Ytpakpgjbgehhjaa
