/-
  How far a sum of products, reckoned one behind the other, lies from the exact one. Conditions: finite numbers, not too many; nothing is too great.
-/
import Derived.Test.YtokgfeeaoioegaaErrM
namespace Go.Proofs.Ytokgfeeaoioegaa
set_option linter.unusedVariables false
set_option linter.unusedSimpArgs false

/-- The sum of products, from plus zero on, one behind the other. -/
def dotV (X Y : Nat → Int) : Nat → Int
  | 0 => 0
  | k + 1 => (addS (dotV X Y k) (mulS (X k) (Y k)).1).1
/-- Its flags, on top of F. -/
def dotF (F : Int) (X Y : Nat → Int) : Nat → Int
  | 0 => F
  | k + 1 => bits .or .u8 (bits .or .u8 (dotF F X Y k) (mulS (X k) (Y k)).2) (addS (dotV X Y k) (mulS (X k) (Y k)).1).2
/-- The exact sum, times 2^2148. -/
def sumP (X Y : Nat → Int) : Nat → Int
  | 0 => 0
  | k + 1 => sumP X Y k + sv (X k) * sv (Y k)
/-- The sum of the products' magnitudes, times 2^2148. -/
def absP (X Y : Nat → Int) : Nat → Nat
  | 0 => 0
  | k + 1 => absP X Y k + (sv (X k) * sv (Y k)).natAbs
theorem sum_abs (X Y : Nat → Int) (n : Nat) : (sumP X Y n).natAbs ≤ absP X Y n := by
  induction n with
  | zero => exact Nat.le_refl _
  | succ n ih => unfold sumP absP; omega
theorem dotV_rng (X Y : Nat → Int) (n : Nat) : 0 ≤ dotV X Y n ∧ dotV X Y n < 18446744073709551616 := by
  induction n with
  | zero => exact ⟨show (0 : Int) ≤ 0 by decide, show (0 : Int) < 18446744073709551616 by decide⟩
  | succ n ih =>
    have h := mulS_bd (X n) (Y n)
    have := addS_bd (dotV X Y n) (mulS (X n) (Y n)).1 ih.1 ih.2 h.1 h.2.1
    exact ⟨this.1, this.2.1⟩
theorem dot_step (U k A t : Nat) (D S q P D' : Int) (hk : 1 ≤ k) (hU : 3 * k ≤ U) (hS : S.natAbs ≤ A) (h1 : (D - S).natAbs * U ≤ (2 * k - 1) * A + 3 * k * t) (h2 : (q - P).natAbs * U ≤ P.natAbs + t) (h3 : (D' - (D + q)).natAbs * U ≤ (D + q).natAbs) :
    (D' - (S + P)).natAbs * U ≤ (2 * (k + 1) - 1) * (A + P.natAbs) + 3 * (k + 1) * t := by
  have a1 : (D - S).natAbs ≤ A + t := by
    refine Nat.le_of_mul_le_mul_right (Nat.le_trans h1 ?_) (show 0 < U by omega)
    rw [Nat.add_mul, Nat.mul_comm A U, Nat.mul_comm t U]
    exact Nat.add_le_add (Nat.mul_le_mul_right A (by omega)) (Nat.mul_le_mul_right t hU)
  have a2 : (q - P).natAbs ≤ P.natAbs + t := Nat.le_trans (Nat.le_mul_of_pos_right _ (show 0 < U by omega)) h2
  have b1 : (D' - (S + P)).natAbs ≤ (D' - (D + q)).natAbs + (D - S).natAbs + (q - P).natAbs := by omega
  have b2 : (D + q).natAbs ≤ S.natAbs + (D - S).natAbs + P.natAbs + (q - P).natAbs := by omega
  have c1 := Nat.mul_le_mul_right U b1
  rw [Nat.add_mul, Nat.add_mul] at c1
  have e1 : (2 * (k + 1) - 1) * (A + P.natAbs) = (2 * k - 1) * A + 2 * A + (2 * k - 1) * P.natAbs + 2 * P.natAbs := by
    rw [show 2 * (k + 1) - 1 = (2 * k - 1) + 2 by omega, Nat.add_mul, Nat.mul_add, Nat.mul_add]
    omega
  have e2 : 3 * (k + 1) * t = 3 * k * t + 3 * t := by rw [show 3 * (k + 1) = 3 * k + 3 by omega, Nat.add_mul]
  have e3 : P.natAbs ≤ (2 * k - 1) * P.natAbs := Nat.le_mul_of_pos_left _ (by omega)
  rw [e1, e2]
  generalize (2 * k - 1) * A = m1 at *
  generalize (2 * k - 1) * P.natAbs = m2 at *
  generalize 3 * k * t = m3 at *
  generalize (D' - (S + P)).natAbs * U = m4 at *
  generalize (D' - (D + q)).natAbs * U = m5 at *
  generalize (D - S).natAbs * U = m6 at *
  generalize (q - P).natAbs * U = m7 at *
  omega
theorem scale_err (U : Nat) (d a b : Int) (T : Nat) (h : (d - (a + b)).natAbs * U ≤ (a + b).natAbs) : (d * (T : Int) - (a * (T : Int) + b * (T : Int))).natAbs * U ≤ (a * (T : Int) + b * (T : Int)).natAbs := by
  rw [← Int.add_mul, ← Int.sub_mul, Int.natAbs_mul, Int.natAbs_mul, Int.natAbs_natCast, Nat.mul_assoc, Nat.mul_comm T U, ← Nat.mul_assoc]
  exact Nat.mul_le_mul_right T h
/-- Each product is near, with t besides; each sum is not too great. -/
theorem dot_gen (X Y : Nat → Int) (t : Nat) : ∀ n, 3 * n ≤ 9007199254740992 →
    (∀ i, i < n → mag (mulS (X i) (Y i)).1 < 9218868437227405312 ∧ (sv (mulS (X i) (Y i)).1 * ((2 ^ uu : Nat) : Int) - sv (X i) * sv (Y i)).natAbs * 9007199254740992 ≤ (sv (X i) * sv (Y i)).natAbs + t) →
    (∀ i, i < n → (addS (dotV X Y i) (mulS (X i) (Y i)).1).2 < 4) →
    mag (dotV X Y n) < 9218868437227405312 ∧ (n = 0 ∨ (sv (dotV X Y n) * ((2 ^ uu : Nat) : Int) - sumP X Y n).natAbs * 9007199254740992 ≤ (2 * n - 1) * absP X Y n + 3 * n * t)
  | 0, _, _, _ => ⟨by show mag 0 < _; decide, .inl rfl⟩
  | k + 1, hn, hm, ha => by
    obtain ⟨i1, i2⟩ := dot_gen X Y t k (by omega) (fun i hi => hm i (by omega)) (fun i hi => ha i (by omega))
    obtain ⟨m1, m2⟩ := hm k (by omega)
    have hb := mulS_bd (X k) (Y k)
    by_cases hk : k = 0
    · subst hk
      obtain ⟨z1, z2⟩ := add_zero_sv (mulS (X 0) (Y 0)).1 hb.1 hb.2.1 m1
      refine ⟨z1, .inr ?_⟩
      show (sv (addS 0 (mulS (X 0) (Y 0)).1).1 * _ - (0 + sv (X 0) * sv (Y 0))).natAbs * _ ≤ (2 * (0 + 1) - 1) * (0 + (sv (X 0) * sv (Y 0)).natAbs) + 3 * (0 + 1) * t
      rw [z2, Int.zero_add, show 2 * (0 + 1) - 1 = 1 from rfl, Nat.one_mul, show 3 * (0 + 1) = 3 from rfl, Nat.zero_add (sv (X 0) * sv (Y 0)).natAbs]
      exact Nat.le_trans m2 (Nat.add_le_add_left (show t ≤ 3 * t by omega) _)
    · obtain ⟨z1, z2⟩ := add_err _ _ i1 m1 (ha k (by omega))
      refine ⟨z1, .inr ?_⟩
      have h1 := i2.resolve_left hk
      have := dot_step 9007199254740992 k (absP X Y k) t _ _ _ _ _ (by omega) (by omega) (sum_abs X Y k) h1 m2 (scale_err 9007199254740992 _ _ _ (2 ^ uu) z2)
      exact this
/-! ### Flags -/
theorem or_rng (F f : Int) (h0 : 0 ≤ F) (h1 : F ≤ 31) (g0 : 0 ≤ f) (g1 : f ≤ 31) : 0 ≤ bits .or .u8 F f ∧ bits .or .u8 F f ≤ 31 := by
  have key : ∀ a b : Fin 32, 0 ≤ bits .or .u8 ((a.val : Nat) : Int) ((b.val : Nat) : Int) ∧ bits .or .u8 ((a.val : Nat) : Int) ((b.val : Nat) : Int) ≤ 31 := by decide +kernel
  have := key ⟨F.toNat, by omega⟩ ⟨f.toNat, by omega⟩
  rw [show ((F.toNat : Nat) : Int) = F by omega, show ((f.toNat : Nat) : Int) = f by omega] at this
  exact this
theorem or_and (m : Fin 32) (F f : Int) (h0 : 0 ≤ F) (h1 : F ≤ 31) (g0 : 0 ≤ f) (g1 : f ≤ 31) (h : bits .and .u8 (bits .or .u8 F f) ((m.val : Nat) : Int) = 0) : bits .and .u8 F ((m.val : Nat) : Int) = 0 ∧ bits .and .u8 f ((m.val : Nat) : Int) = 0 := by
  have key : ∀ m a b : Fin 32, bits .and .u8 (bits .or .u8 ((a.val : Nat) : Int) ((b.val : Nat) : Int)) ((m.val : Nat) : Int) = 0 → bits .and .u8 ((a.val : Nat) : Int) ((m.val : Nat) : Int) = 0 ∧ bits .and .u8 ((b.val : Nat) : Int) ((m.val : Nat) : Int) = 0 := by decide +kernel
  have := key m ⟨F.toNat, by omega⟩ ⟨f.toNat, by omega⟩
  rw [show ((F.toNat : Nat) : Int) = F by omega, show ((f.toNat : Nat) : Int) = f by omega] at this
  exact this h
theorem flag_four (x : Nat) (e : Int) : flagP x e = 0 ∨ flagP x e = 1 ∨ flagP x e = 3 ∨ flagP x e = 5 := by
  unfold flagP
  split
  · omega
  · split
    · split <;> omega
    · omega
/-- Neither Over nor Under nor Invalid: nothing, or Inexact alone. -/
theorem flag_low (f : Nat) (h : f = 0 ∨ f = 1 ∨ f = 3 ∨ f = 5) (g : bits .and .u8 (f : Int) 22 = 0) : f ≤ 1 := by
  rcases h with rfl | rfl | rfl | rfl
  · omega
  · omega
  · exact absurd g (by decide +kernel)
  · exact absurd g (by decide +kernel)
theorem dotF_rng (F : Int) (X Y : Nat → Int) (h0 : 0 ≤ F) (h1 : F ≤ 31) (n : Nat) : 0 ≤ dotF F X Y n ∧ dotF F X Y n ≤ 31 := by
  induction n with
  | zero => exact ⟨h0, h1⟩
  | succ n ih =>
    have hm := mulS_bd (X n) (Y n)
    have hd := dotV_rng X Y n
    have ha := addS_bd (dotV X Y n) (mulS (X n) (Y n)).1 hd.1 hd.2 hm.1 hm.2.1
    have h2 := or_rng _ _ ih.1 ih.2 hm.2.2.1 hm.2.2.2
    exact or_rng _ _ h2.1 h2.2 ha.2.2.1 ha.2.2.2
/-- Of flags that hold none of a mask, each step's hold none. -/
theorem dotF_and (m : Fin 32) (F : Int) (X Y : Nat → Int) (h0 : 0 ≤ F) (h1 : F ≤ 31) : ∀ n, bits .and .u8 (dotF F X Y n) ((m.val : Nat) : Int) = 0 → ∀ i, i < n → bits .and .u8 (mulS (X i) (Y i)).2 ((m.val : Nat) : Int) = 0 ∧ bits .and .u8 (addS (dotV X Y i) (mulS (X i) (Y i)).1).2 ((m.val : Nat) : Int) = 0
  | 0, _, i, hi => absurd hi (Nat.not_lt_zero _)
  | n + 1, h, i, hi => by
    have hm := mulS_bd (X n) (Y n)
    have hd := dotV_rng X Y n
    have ha := addS_bd (dotV X Y n) (mulS (X n) (Y n)).1 hd.1 hd.2 hm.1 hm.2.1
    have hF := dotF_rng F X Y h0 h1 n
    have h2 := or_rng _ _ hF.1 hF.2 hm.2.2.1 hm.2.2.2
    obtain ⟨e1, e2⟩ := or_and m _ _ h2.1 h2.2 ha.2.2.1 ha.2.2.2 h
    obtain ⟨e3, e4⟩ := or_and m _ _ hF.1 hF.2 hm.2.2.1 hm.2.2.2 e1
    by_cases hin : i = n
    · subst hin; exact ⟨e4, e2⟩
    · exact dotF_and m F X Y h0 h1 n e3 i (by omega)
/-- P10.4: finite numbers, and neither Over nor Under nor Invalid has come: within 2 n 2^-53. -/
theorem dot_err (X Y : Nat → Int) (n : Nat) (hn : n ≤ 1048576) (fx : ∀ i, i < n → mag (X i) < 9218868437227405312) (fy : ∀ i, i < n → mag (Y i) < 9218868437227405312) (h : bits .and .u8 (dotF 0 X Y n) 22 = 0) :
    mag (dotV X Y n) < 9218868437227405312 ∧ (sv (dotV X Y n) * ((2 ^ uu : Nat) : Int) - sumP X Y n).natAbs * 9007199254740992 ≤ 2 * n * absP X Y n := by
  have hfl := dotF_and ⟨22, by decide⟩ 0 X Y (by decide) (by decide) n h
  have key : ∀ k, k ≤ n → mag (dotV X Y k) < 9218868437227405312 ∧ (k = 0 ∨ (sv (dotV X Y k) * ((2 ^ uu : Nat) : Int) - sumP X Y k).natAbs * 9007199254740992 ≤ (2 * k - 1) * absP X Y k + 3 * k * 0) ∧ ∀ i, i < k → (addS (dotV X Y i) (mulS (X i) (Y i)).1).2 < 4 := by
    intro k
    induction k with
    | zero => intro _; exact ⟨by show mag 0 < _; decide, .inl rfl, fun i hi => absurd hi (Nat.not_lt_zero _)⟩
    | succ k ih =>
      intro hk
      obtain ⟨j1, j2, j3⟩ := ih (by omega)
      have hM : ∀ i, i < k + 1 → mag (mulS (X i) (Y i)).1 < 9218868437227405312 ∧ (sv (mulS (X i) (Y i)).1 * ((2 ^ uu : Nat) : Int) - sv (X i) * sv (Y i)).natAbs * 9007199254740992 ≤ (sv (X i) * sv (Y i)).natAbs + 0 := by
        intro i hi
        refine mul_err _ _ (fx i (by omega)) (fy i (by omega)) ?_
        have hf := (hfl i (by omega)).1
        rw [mulS_fin _ _ (fx i (by omega)) (fy i (by omega))] at hf ⊢
        have := flag_low _ (flag_four _ _) hf
        show ((flagP _ _ : Nat) : Int) ≤ 1
        omega
      have hA : ∀ i, i < k + 1 → (addS (dotV X Y i) (mulS (X i) (Y i)).1).2 < 4 := by
        intro i hi
        by_cases hik : i = k
        · subst hik
          have hf := (hfl i (by omega)).2
          have m1 := (hM i (by omega)).1
          rw [addS_fin _ _ j1 m1] at hf ⊢
          split
          · exact (by decide : (0 : Int) < 4)
          · rename_i hz
            rw [if_neg hz] at hf
            have := flag_low _ (flag_four _ _) hf
            show ((flagP _ _ : Nat) : Int) < 4
            omega
        · exact j3 i (by omega)
      obtain ⟨g1, g2⟩ := dot_gen X Y 0 (k + 1) (by omega) hM hA
      exact ⟨g1, g2, hA⟩
  obtain ⟨k1, k2, _⟩ := key n (Nat.le_refl _)
  refine ⟨k1, ?_⟩
  rcases k2 with rfl | k2
  · show (sv 0 * _ - 0).natAbs * _ ≤ _
    rw [sv_zero 0 (by decide)]
    simp
  · rw [Nat.mul_zero, Nat.add_zero] at k2
    exact Nat.le_trans k2 (Nat.mul_le_mul_right _ (by omega))
end Go.Proofs.Ytokgfeeaoioegaa
