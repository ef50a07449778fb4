/-
  Texts put together: MoreI WholeM.
-/
import Derived.Test.YtpakpgjbgehhjaaProg
import Derived.Test.YtpakpgjbgehhjaaGrA
import Derived.Test.YtpakpgjbgehhjaaGrC
import Derived.Test.YtpakpgjbgehhjaaGrB
/-
  The mathematics of MoreInts: a whole number of at most 2^63, rounded, is a whole number, exact or not.
-/
namespace Go.Proofs.Ytpakpgjbgehhjaa
set_option linter.unusedVariables false

theorem q63 : numP 9223372036854775808 0 = 4890909195324358656 := by
  have h := numP_scale 4503599627370496 0 11
  rw [show 4503599627370496 * 2 ^ 11 = 9223372036854775808 by decide] at h
  rw [h]
  unfold numP
  rw [patP_exact 4503599627370496 (0 + ((11 : Nat) : Int)) (by decide) (by decide) (by decide) (by decide)]
  decide
theorem q63_V : V 4890909195324358656 = 9223372036854775808 * 2 ^ uu := by
  have h := V_split 4503599627370496 1085 (by decide) (by decide)
  rw [show 4503599627370496 + 1085 * 4503599627370496 = 4890909195324358656 by decide] at h
  have hu := uu_nat
  rw [h, show 1085 = 11 + uu by omega, Nat.pow_add, ← Nat.mul_assoc]
theorem lost_zero (e : Int) : lostP 0 e = false := by
  unfold lostP lostI
  rw [Nat.zero_mod]
  simp
theorem from_math (m : Nat) (hm : m ≤ 9223372036854775808) : ∃ lo : Bool, numP m 0 ≤ 4890909195324358656 ∧ flagP m 0 = (if lo then 1 else 0) ∧ (V (numP m 0) = m * 2 ^ uu ↔ lo = false) ∧ V (numP m 0) % 2 ^ uu = 0
    ∧ V (numP m 0) / 2 ^ uu ≤ 9223372036854775808 ∧ (V (numP m 0) / 2 ^ uu = 9223372036854775808 → numP m 0 = 4890909195324358656) ∧ (lo = false → V (numP m 0) / 2 ^ uu = m) := by
  have hu := uu_is
  have hp := Nat.two_pow_pos uu
  have hP := numP_mono m 9223372036854775808 0 hm
  rw [q63] at hP
  have e1 : patP (m * 2 ^ uu) (-1074) = patP m 0 := by rw [patP_scale]; congr 1
  have e2 : patP m 0 = numP m 0 := by unfold numP at hP ⊢; omega
  have hVle := V_mono _ _ hP
  rw [q63_V] at hVle
  have hdiv : V (numP m 0) / 2 ^ uu ≤ 9223372036854775808 := by
    have := Nat.div_le_div_right (c := 2 ^ uu) hVle
    rw [Nat.mul_div_cancel _ hp] at this
    exact this
  have key : ∃ lo : Bool, flagP m 0 = (if lo then 1 else 0) ∧ (V (numP m 0) = m * 2 ^ uu ↔ lo = false) ∧ V (numP m 0) % 2 ^ uu = 0 := by
    rcases Nat.eq_zero_or_pos m with h0 | h0
    · subst h0
      refine ⟨false, ?_, ?_, ?_⟩
      · unfold flagP patP; simp
      · rw [numP_zero, V_zero]; simp
      · rw [numP_zero, V_zero, Nat.zero_mod]
    · have hl : lostP (m * 2 ^ uu) (-1074) = lostP m 0 := by rw [lostP_scale _ _ _ h0]; congr 1
      have hlen : 0 < (bl m).length := (bl_length_lt m 0).2 (by rw [Nat.pow_zero]; exact h0)
      have hsm : smallP m 0 = false := by unfold smallP; exact decide_eq_false (by omega)
      cases lo : lostP m 0
      · refine ⟨false, ?_, ?_, ?_⟩
        · unfold flagP
          rw [lo, if_neg (by omega), if_neg (by simp)]
          rfl
        · have := V_exact (m * 2 ^ uu) (by rw [hl, lo])
          rw [e1, e2] at this
          rw [this]; simp
        · have := V_exact (m * 2 ^ uu) (by rw [hl, lo])
          rw [e1, e2] at this
          rw [this, Nat.mul_mod_left]
      · refine ⟨true, ?_, ?_, ?_⟩
        · unfold flagP
          rw [lo, hsm, if_neg (by omega), if_pos ⟨by omega, rfl⟩, if_neg (by simp)]
          rfl
        · constructor
          · intro h
            exfalso
            rcases lostP_V (numP m 0) with g | g
            · rw [h, hl, lo] at g; exact absurd g (by simp)
            · rw [h] at g
              have := Nat.mul_pos h0 hp
              omega
          · intro h; exact absurd h (by simp)
        · have hd : 0 < lastP m 0 := by
            unfold lostP lostI at lo
            rw [decide_eq_true_eq] at lo
            omega
          have hv := V_pat (m * 2 ^ uu) (Nat.mul_pos h0 hp)
          rw [e1, e2, lastP_scale _ _ _ h0, show (-1074 : Int) + (uu : Int) = 0 by omega] at hv
          rw [hv, show (lastP m 0 + 1074).toNat = (lastP m 0).toNat + uu by omega, Nat.pow_add, ← Nat.mul_assoc, Nat.mul_mod_left]
  obtain ⟨lo, k1, k2, k3⟩ := key
  refine ⟨lo, hP, k1, k2, k3, hdiv, ?_, ?_⟩
  · intro h
    apply V_inj
    rw [q63_V, ← h]
    have := Nat.div_add_mod (V (numP m 0)) (2 ^ uu)
    rw [k3, Nat.add_zero, Nat.mul_comm] at this
    exact this.symm
  · intro h
    rw [k2.2 h, Nat.mul_div_cancel _ hp]
theorem cmp_three (m n : Nat) : (m < n ∧ cmpI m n = -1) ∨ (m = n ∧ cmpI m n = 0) ∨ (n < m ∧ cmpI m n = 1) := by
  unfold cmpI
  rcases Nat.lt_trichotomy m n with h | h | h
  · left; exact ⟨h, by rw [if_pos h]⟩
  · right; left; exact ⟨h, by rw [if_neg (by omega), if_pos h]⟩
  · right; right; exact ⟨h, by rw [if_neg (by omega), if_neg (by omega)]⟩
theorem to_fin (a : Int) (hf : mag a < 9218868437227405312) (D : Nat) (lo sa : Bool) (hD : V (mag a) / 2 ^ uu = D) (hlo : lostB (V (mag a)) uu = lo) (hs : sgn a = sa) :
    toS a = if (if sa then 9223372036854775808 else 9223372036854775807) < D then (0, 16) else (if sa then -(D : Int) else (D : Int), if lo then 1 else 0) := by
  unfold toS
  unfold lostB at hlo
  rw [if_neg (by omega), hD, hs]
  congr 2
  cases lo
  · rw [decide_eq_false_iff_not] at hlo; rw [if_neg hlo]; rfl
  · rw [decide_eq_true_eq] at hlo; rw [if_pos hlo]; rfl
theorem to_pick (D : Nat) (sa lo : Bool) (N F : Int) (hN : (if (if sa then 9223372036854775808 else 9223372036854775807) < D then ((0 : Int), (16 : Int)) else (if sa then -(D : Int) else (D : Int), if lo then 1 else 0)).1 = N) (hF : (if (if sa then 9223372036854775808 else 9223372036854775807) < D then ((0 : Int), (16 : Int)) else (if sa then -(D : Int) else (D : Int), if lo then 1 else 0)).2 = F) :
    (9223372036854775808 < D → N = 0 ∧ F = 16) ∧ (D = 9223372036854775808 → sa = false → N = 0 ∧ F = 16) ∧ (D = 9223372036854775808 → sa = true → N = -9223372036854775808) ∧ (D < 9223372036854775808 → sa = true → N = -(D : Int)) ∧ (D < 9223372036854775808 → sa = false → N = (D : Int)) ∧ (D < 9223372036854775808 ∨ (D = 9223372036854775808 ∧ sa = true) → lo = true → F = 1) ∧ (D < 9223372036854775808 ∨ (D = 9223372036854775808 ∧ sa = true) → lo = false → F = 0) := by
  refine ⟨fun h => ?_, fun h g => ?_, fun h g => ?_, fun h g => ?_, fun h g => ?_, fun h g => ?_, fun h g => ?_⟩
  · rw [if_pos (by split <;> omega)] at hN hF; exact ⟨hN.symm, hF.symm⟩
  · subst g; rw [if_pos (by simp; omega)] at hN hF; exact ⟨hN.symm, hF.symm⟩
  · subst g; rw [if_neg (by simp; omega)] at hN; simp at hN; omega
  · subst g; rw [if_neg (by simp; omega)] at hN; simp at hN; omega
  · subst g; rw [if_neg (by simp; omega)] at hN; simp at hN; omega
  · subst g
    have : ¬ (if sa then 9223372036854775808 else 9223372036854775807) < D := by
      rcases h with h | ⟨h, rfl⟩
      · split <;> omega
      · simp; omega
    rw [if_neg this] at hF; simp at hF; omega
  · subst g
    have : ¬ (if sa then 9223372036854775808 else 9223372036854775807) < D := by
      rcases h with h | ⟨h, rfl⟩
      · split <;> omega
      · simp; omega
    rw [if_neg this] at hF; simp at hF; omega
end Go.Proofs.Ytpakpgjbgehhjaa

/-
  Whole numbers beneath 2^53 as patterns: their products, sums and sums of products are exact, without flags. No conditions.
-/
namespace Go.Proofs.Ytpakpgjbgehhjaa
open Go.RowKit
set_option linter.unusedVariables false

theorem whole_small (m : Nat) (h : m < 9007199254740992) : numP m 0 < 9218868437227405312 ∧ V (numP m 0) = m * 2 ^ uu ∧ flagP m 0 = 0 := by
  obtain ⟨lo, h1, h2, h3, _⟩ := from_math m (by omega)
  have hl : lostP m 0 = false := by
    have hb : (bl m).length ≤ 53 := (bl_length_le m 53).2 (by omega)
    unfold lostP lostI lastP
    refine decide_eq_false (fun g => ?_)
    have := g.1
    omega
  have hn : numP m 0 < 9218868437227405312 := by omega
  have hf : flagP m 0 = 0 := by
    unfold flagP
    rw [hl]
    have : ¬ 9218868437227405312 ≤ patP m 0 := by
      unfold numP at hn
      omega
    rw [if_neg this, if_neg (by simp)]
  refine ⟨hn, h3.2 ?_, hf⟩
  cases lo
  · rfl
  · rw [hf] at h2; simp at h2
/-- The pattern x stands for the whole number k. -/
def IsW (x k : Int) : Prop := 0 ≤ x ∧ x < 18446744073709551616 ∧ mag x < 9218868437227405312 ∧ sv x = k * ((2 ^ uu : Nat) : Int)
theorem sgn_num (b : Bool) (n : Nat) (hn : n < 9223372036854775808) : 0 ≤ sgnB b + (n : Int) ∧ sgnB b + (n : Int) < 18446744073709551616 ∧ mag (sgnB b + (n : Int)) = n ∧ sgn (sgnB b + (n : Int)) = b := by
  unfold mag sgn sgnB
  cases b
  · refine ⟨by simp, by simp; omega, ?_, ?_⟩
    · simp; omega
    · simp; omega
  · refine ⟨by simp; omega, by simp; omega, ?_, ?_⟩
    · simp; omega
    · simp; omega
theorem isW_num (b : Bool) (k : Int) (hk : k.natAbs < 9007199254740992) (hb : k ≠ 0 → b = decide (k < 0)) : IsW (sgnB b + ((numP k.natAbs 0 : Nat) : Int)) k := by
  obtain ⟨h1, h2, h3⟩ := whole_small k.natAbs hk
  obtain ⟨a1, a2, a3, a4⟩ := sgn_num b (numP k.natAbs 0) (by omega)
  refine ⟨a1, a2, by rw [a3]; exact h1, ?_⟩
  unfold sv
  rw [a3, a4, h2]
  rcases Int.lt_trichotomy k 0 with g | g | g
  · rw [hb (by omega), decide_eq_true g, if_pos rfl, Int.natCast_mul, ← Int.neg_mul]
    congr 1
    omega
  · subst g
    simp
  · rw [hb (by omega), decide_eq_false (by omega), if_neg (by simp), Int.natCast_mul]
    congr 1
    omega
theorem rnd_whole (k : Int) : rndS (k * ((2 ^ uu : Nat) : Int)) = (sgnB (decide (k < 0)) + ((numP k.natAbs 0 : Nat) : Int), ((flagP k.natAbs 0 : Nat) : Int)) := by
  have hp : (0 : Int) < ((2 ^ uu : Nat) : Int) := by have := Nat.two_pow_pos uu; omega
  have h1 : (k * ((2 ^ uu : Nat) : Int)).natAbs = k.natAbs * 2 ^ uu := by rw [Int.natAbs_mul, Int.natAbs_natCast]
  have h2 : decide (k * ((2 ^ uu : Nat) : Int) < 0) = decide (k < 0) := by
    rw [Bool.eq_iff_iff, decide_eq_true_eq, decide_eq_true_eq]
    constructor
    · intro h
      rcases Int.lt_or_le k 0 with g | g
      · exact g
      · have := Int.mul_nonneg g (Int.le_of_lt hp); omega
    · intro h
      exact Int.mul_neg_of_neg_of_pos h hp
  unfold rndS
  rw [h1, h2, numP_scale, flagP_scale, show (-1074 : Int) + (uu : Int) = 0 by rw [uu_is]; rfl]
theorem rndW (k : Int) (hk : k.natAbs < 9007199254740992) : IsW (rndS (k * ((2 ^ uu : Nat) : Int))).1 k ∧ (rndS (k * ((2 ^ uu : Nat) : Int))).2 = 0 := by
  rw [rnd_whole]
  obtain ⟨h1, h2, h3⟩ := whole_small k.natAbs hk
  exact ⟨isW_num _ k hk (fun _ => rfl), by rw [h3]; rfl⟩
theorem IsW.zero {x : Int} (h : IsW x 0) : mag x = 0 := by
  have := h.2.2.2
  rw [Int.zero_mul] at this
  have h2 := sv_abs x
  rw [this] at h2
  rcases Nat.eq_zero_or_pos (mag x) with g | g
  · exact g
  · have := V_pos (mag x) g
    simp at h2
    omega
theorem IsW.nonzero {x k : Int} (h : IsW x k) (hk : k ≠ 0) : mag x ≠ 0 := by
  intro e
  have h2 := sv_abs x
  rw [e, V_zero, h.2.2.2, Int.natAbs_mul, Int.natAbs_natCast] at h2
  have := Nat.two_pow_pos uu
  rcases Nat.mul_eq_zero.1 h2 with g | g <;> omega
/-- But for zero there is one pattern alone. -/
theorem IsW.only {x k : Int} (h : IsW x k) (hk : k ≠ 0) : x = (rndS (k * ((2 ^ uu : Nat) : Int))).1 := by
  have := rnd_self x h.1 h.2.1 h.2.2.1 (h.nonzero hk)
  rw [h.2.2.2] at this
  rw [this]
theorem IsW.same {x y k : Int} (h : IsW x k) (g : IsW y k) : x = y ∨ (mag x = 0 ∧ mag y = 0) := by
  by_cases hk : k = 0
  · subst hk
    exact .inr ⟨h.zero, g.zero⟩
  · exact .inl ((h.only hk).trans (g.only hk).symm)
theorem addW {x y a b : Int} (hx : IsW x a) (hy : IsW y b) (hk : (a + b).natAbs < 9007199254740992) : IsW (addS x y).1 (a + b) ∧ (addS x y).2 = 0 := by
  rw [addS_fin x y hx.2.2.1 hy.2.2.1]
  by_cases hz : (isZ x && isZ y) = true
  · rw [if_pos hz]
    rw [Bool.and_eq_true] at hz
    have z1 := (z_iff x).1 hz.1
    have z2 := (z_iff y).1 hz.2
    have ha : a = 0 := Classical.byContradiction fun g => hx.nonzero g z1
    have hb : b = 0 := Classical.byContradiction fun g => hy.nonzero g z2
    subst ha hb
    have := isW_num (sgn x && sgn y) 0 (by decide) (fun g => absurd rfl g)
    rw [show (0 : Int).natAbs = 0 from rfl, numP_zero] at this
    refine ⟨?_, rfl⟩
    rw [Int.add_zero]
    simpa using this
  · rw [if_neg hz, hx.2.2.2, hy.2.2.2, ← Int.add_mul]
    exact rndW (a + b) hk
theorem mulW {x y a b : Int} (hx : IsW x a) (hy : IsW y b) (hk : (a * b).natAbs < 9007199254740992) : IsW (mulS x y).1 (a * b) ∧ (mulS x y).2 = 0 := by
  rw [mulS_fin x y hx.2.2.1 hy.2.2.1]
  have e1 : V (mag x) = a.natAbs * 2 ^ uu := by rw [← sv_abs, hx.2.2.2, Int.natAbs_mul, Int.natAbs_natCast]
  have e2 : V (mag y) = b.natAbs * 2 ^ uu := by rw [← sv_abs, hy.2.2.2, Int.natAbs_mul, Int.natAbs_natCast]
  have e3 : V (mag x) * V (mag y) = (a * b).natAbs * 2 ^ (uu + uu) := by
    rw [e1, e2, Int.natAbs_mul, Nat.pow_add]
    simp only [Nat.mul_comm, Nat.mul_left_comm, Nat.mul_assoc]
  rw [e3, numP_scale, flagP_scale, show (-2148 : Int) + ((uu + uu : Nat) : Int) = 0 by rw [Int.natCast_add, uu_is]; rfl]
  obtain ⟨h1, h2, h3⟩ := whole_small (a * b).natAbs hk
  refine ⟨isW_num _ (a * b) hk (fun hne => ?_), by rw [h3]; rfl⟩
  have sg : ∀ {u c : Int}, IsW u c → c ≠ 0 → sgn u = decide (c < 0) := by
    intro u c h hc
    have hp : (0 : Int) < ((2 ^ uu : Nat) : Int) := by have := Nat.two_pow_pos uu; omega
    have hV := V_pos (mag u) (by have := h.nonzero hc; omega)
    have hs := h.2.2.2
    unfold sv at hs
    rcases Int.lt_or_le c 0 with g | g
    · have hneg := Int.mul_neg_of_neg_of_pos g hp
      rw [decide_eq_true g]
      cases hb : sgn u
      · rw [hb, if_neg (by simp)] at hs; omega
      · rfl
    · have hnn := Int.mul_nonneg g (Int.le_of_lt hp)
      rw [decide_eq_false (by omega)]
      cases hb : sgn u
      · rfl
      · rw [hb, if_pos rfl] at hs; omega
  have ha : a ≠ 0 := fun g => hne (by rw [g, Int.zero_mul])
  have hb : b ≠ 0 := fun g => hne (by rw [g, Int.mul_zero])
  rw [sg hx ha, sg hy hb]
  rcases Int.lt_or_le a 0 with g1 | g1 <;> rcases Int.lt_or_le b 0 with g2 | g2
  · have := Int.mul_pos_of_neg_of_neg g1 g2
    rw [decide_eq_true g1, decide_eq_true g2, decide_eq_false (show ¬ a * b < 0 by omega)]; rfl
  · have := Int.mul_neg_of_neg_of_pos g1 (show 0 < b by omega)
    rw [decide_eq_true g1, decide_eq_false (show ¬ b < 0 by omega), decide_eq_true this]; rfl
  · have := Int.mul_neg_of_pos_of_neg (show 0 < a by omega) g2
    rw [decide_eq_false (show ¬ a < 0 by omega), decide_eq_true g2, decide_eq_true this]; rfl
  · have := Int.mul_nonneg g1 g2
    rw [decide_eq_false (show ¬ a < 0 by omega), decide_eq_false (show ¬ b < 0 by omega), decide_eq_false (show ¬ a * b < 0 by omega)]; rfl
/-- A sum of products of whole numbers. -/
def wsum (a b : Nat → Int) : Nat → Int
  | 0 => 0
  | n + 1 => wsum a b n + a n * b n
theorem isW_nil : IsW 0 0 := by
  have := isW_num false 0 (by decide) (fun g => absurd rfl g)
  rw [show (0 : Int).natAbs = 0 from rfl, numP_zero] at this
  exact this
theorem dotW (X Y a b : Nat → Int) (n : Nat) (hX : ∀ i, i < n → IsW (X i) (a i)) (hY : ∀ i, i < n → IsW (Y i) (b i)) (hp : ∀ i, i < n → (a i * b i).natAbs < 9007199254740992) (hs : ∀ i, i ≤ n → (wsum a b i).natAbs < 9007199254740992) (F : Int) (h0 : 0 ≤ F) (h1 : F ≤ 31) : IsW (dotV X Y n) (wsum a b n) ∧ dotF F X Y n = F := by
  induction n with
  | zero => exact ⟨isW_nil, rfl⟩
  | succ k ih =>
    obtain ⟨i1, i2⟩ := ih (fun i hi => hX i (by omega)) (fun i hi => hY i (by omega)) (fun i hi => hp i (by omega)) (fun i hi => hs i (by omega))
    obtain ⟨m1, m2⟩ := mulW (hX k (by omega)) (hY k (by omega)) (hp k (by omega))
    obtain ⟨s1, s2⟩ := addW i1 m1 (hs (k + 1) (Nat.le_refl _))
    refine ⟨s1, ?_⟩
    show bits .or .u8 (bits .or .u8 (dotF F X Y k) (mulS (X k) (Y k)).2) (addS (dotV X Y k) (mulS (X k) (Y k)).1).2 = F
    rw [i2, m2, s2]
    have key : ∀ f : Fin 32, bits .or .u8 (bits .or .u8 ((f.1 : Nat) : Int) 0) 0 = ((f.1 : Nat) : Int) := by decide +kernel
    have := key ⟨F.toNat, by omega⟩
    rw [show ((F.toNat : Nat) : Int) = F by omega] at this
    exact this
end Go.Proofs.Ytpakpgjbgehhjaa
