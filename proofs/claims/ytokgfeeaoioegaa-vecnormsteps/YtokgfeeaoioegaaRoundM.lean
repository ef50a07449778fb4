/-
  The plain mathematics of rounding to binary64 (no program in sight): half to even; the pattern of the number nearest to x 2^e as one whole number, that does not hang on how x 2^e is laid, and grows with it; what a little more changes.
-/
import Derived.Test.YtokgfeeaoioegaaBitM
namespace Go.Proofs.Ytokgfeeaoioegaa
set_option linter.unusedVariables false

/-- x by 2^d, to the nearest, half to even. -/
def rne (x d : Nat) : Nat := if 2 ^ d < 2 * (x % 2 ^ d) ∨ (2 * (x % 2 ^ d) = 2 ^ d ∧ x / 2 ^ d % 2 = 1) then x / 2 ^ d + 1 else x / 2 ^ d
theorem rne_zero (x : Nat) : rne x 0 = x := by
  unfold rne
  rw [Nat.pow_zero, Nat.mod_one, Nat.div_one, if_neg (by omega)]
theorem rne_scale (x d k : Nat) : rne (x * 2 ^ k) (d + k) = rne x d := by
  unfold rne
  have hk := Nat.two_pow_pos k
  have e : 2 * (x % 2 ^ d * 2 ^ k) = (2 * (x % 2 ^ d)) * 2 ^ k := (Nat.mul_assoc _ _ _).symm
  have c1 : 2 ^ d * 2 ^ k < 2 * (x % 2 ^ d * 2 ^ k) ↔ 2 ^ d < 2 * (x % 2 ^ d) := by rw [e]; exact Nat.mul_lt_mul_right hk
  have c2 : 2 * (x % 2 ^ d * 2 ^ k) = 2 ^ d * 2 ^ k ↔ 2 * (x % 2 ^ d) = 2 ^ d := by rw [e]; exact Nat.mul_left_inj (by omega)
  rw [Nat.pow_add, Nat.mul_mod_mul_right, Nat.mul_div_mul_right _ _ hk]
  simp only [c1, c2]
theorem rne_ge_div (x d : Nat) : x / 2 ^ d ≤ rne x d := by unfold rne; split <;> omega
theorem rne_le_div (x d : Nat) : rne x d ≤ x / 2 ^ d + 1 := by unfold rne; split <;> omega
theorem rne_mono (x y d : Nat) (h : x ≤ y) : rne x d ≤ rne y d := by
  have hq : x / 2 ^ d ≤ y / 2 ^ d := Nat.div_le_div_right h
  rcases Nat.lt_or_ge (x / 2 ^ d) (y / 2 ^ d) with g | g
  · exact Nat.le_trans (rne_le_div x d) (Nat.le_trans g (rne_ge_div y d))
  · have e : x / 2 ^ d = y / 2 ^ d := Nat.le_antisymm hq g
    have hx := Nat.div_add_mod x (2 ^ d)
    have hy := Nat.div_add_mod y (2 ^ d)
    rw [e] at hx
    have hr : x % 2 ^ d ≤ y % 2 ^ d := by omega
    unfold rne
    rw [e]
    split <;> split <;> omega
theorem rne_mul (m d : Nat) : rne (m * 2 ^ d) d = m := by
  have := rne_scale m 0 d
  rw [Nat.zero_add, rne_zero] at this
  exact this
theorem rne_le (x m d : Nat) (h : x ≤ m * 2 ^ d) : rne x d ≤ m := by
  have := rne_mono _ _ d h
  rwa [rne_mul] at this
theorem rne_ge (x m d : Nat) (h : m * 2 ^ d ≤ x) : m ≤ rne x d := by
  have := rne_mono _ _ d h
  rwa [rne_mul] at this
/-- A little more: it counts only that there is some. -/
theorem rne_sticky (x t d k : Nat) (hd : 0 < d) (ht : 0 < t) (hk : t < 2 ^ k) : rne (x * 2 ^ k + t) (d + k) = x / 2 ^ d + (if 2 ^ d ≤ 2 * (x % 2 ^ d) then 1 else 0) := by
  have hp := Nat.two_pow_pos d
  have hx := Nat.div_add_mod x (2 ^ d)
  have hm := Nat.mod_lt x hp
  have e0 : x * 2 ^ k + t = (x % 2 ^ d * 2 ^ k + t) + (2 ^ d * 2 ^ k) * (x / 2 ^ d) := by
    conv => lhs; rw [← hx]
    grind
  have hs : x % 2 ^ d * 2 ^ k + t < 2 ^ d * 2 ^ k := by
    have : (x % 2 ^ d + 1) * 2 ^ k ≤ 2 ^ d * 2 ^ k := Nat.mul_le_mul_right _ hm
    rw [Nat.add_mul, Nat.one_mul] at this
    omega
  have hpp : 0 < 2 ^ d * 2 ^ k := Nat.mul_pos hp (Nat.two_pow_pos k)
  have e1 : (x * 2 ^ k + t) / (2 ^ d * 2 ^ k) = x / 2 ^ d := by rw [e0, Nat.add_mul_div_left _ _ hpp, Nat.div_eq_of_lt hs, Nat.zero_add]
  have e2 : (x * 2 ^ k + t) % (2 ^ d * 2 ^ k) = x % 2 ^ d * 2 ^ k + t := by rw [e0, Nat.add_mul_mod_self_left, Nat.mod_eq_of_lt hs]
  obtain ⟨c, rfl⟩ : ∃ c, d = c + 1 := ⟨d - 1, by omega⟩
  have hc : (2 : Nat) ^ (c + 1) = 2 * 2 ^ c := by rw [Nat.pow_succ, Nat.mul_comm]
  unfold rne
  rw [Nat.pow_add 2 (c + 1) k, e1, e2]
  generalize x / 2 ^ (c + 1) = q at *
  generalize x % 2 ^ (c + 1) = r at *
  rw [hc]
  by_cases h : 2 ^ c ≤ r
  · have h1 : 2 ^ c * 2 ^ k ≤ r * 2 ^ k := Nat.mul_le_mul_right _ h
    rw [if_pos (Or.inl (by rw [Nat.mul_assoc]; omega)), if_pos (by omega)]
  · have h1 : (r + 1) * 2 ^ k ≤ 2 ^ c * 2 ^ k := Nat.mul_le_mul_right _ (by omega)
    rw [Nat.add_mul, Nat.one_mul] at h1
    rw [if_neg (by rw [Nat.mul_assoc]; omega), if_neg (by omega), Nat.add_zero]
/-- No nearer to any other multiple of 2^d. -/
theorem rne_near (x d : Nat) : 2 * (rne x d * 2 ^ d) ≤ 2 * x + 2 ^ d ∧ 2 * x ≤ 2 * (rne x d * 2 ^ d) + 2 ^ d := by
  have hx := Nat.div_add_mod x (2 ^ d)
  have hm := Nat.mod_lt x (Nat.two_pow_pos d)
  rw [Nat.mul_comm (2 ^ d)] at hx
  unfold rne
  split
  · rw [Nat.add_mul, Nat.one_mul]; omega
  · omega
/-- By 2^d, where d may be less than nought. -/
def rneI (x : Nat) (d : Int) : Nat := if 0 < d then rne x d.toNat else x * 2 ^ (-d).toNat
theorem rneI_scale (x : Nat) (d : Int) (k : Nat) : rneI (x * 2 ^ k) (d + k) = rneI x d := by
  unfold rneI
  by_cases h : 0 < d
  · rw [if_pos h, if_pos (by omega), show (d + (k : Int)).toNat = d.toNat + k by omega, rne_scale]
  · rw [if_neg h]
    by_cases g : 0 < d + (k : Int)
    · rw [if_pos g]
      have : x * 2 ^ k = (x * 2 ^ (-d).toNat) * 2 ^ (d + (k : Int)).toNat := by
        rw [Nat.mul_assoc, ← Nat.pow_add, show (-d).toNat + (d + (k : Int)).toNat = k by omega]
      rw [this, rne_mul]
    · rw [if_neg g, Nat.mul_assoc, ← Nat.pow_add, show k + (-(d + (k : Int))).toNat = (-d).toNat by omega]
theorem rneI_mono (x y : Nat) (d : Int) (h : x ≤ y) : rneI x d ≤ rneI y d := by
  unfold rneI
  split
  · exact rne_mono _ _ _ h
  · exact Nat.mul_le_mul_right _ h
def lostI (x : Nat) (d : Int) : Bool := decide (0 < d ∧ x % 2 ^ d.toNat ≠ 0)
theorem lostI_scale (x : Nat) (d : Int) (k : Nat) : lostI (x * 2 ^ k) (d + k) = lostI x d := by
  unfold lostI
  rw [decide_eq_decide]
  by_cases h : 0 < d
  · rw [show (d + (k : Int)).toNat = d.toNat + k by omega, Nat.pow_add, Nat.mul_mod_mul_right]
    have := Nat.two_pow_pos k
    have e : x % 2 ^ d.toNat * 2 ^ k ≠ 0 ↔ x % 2 ^ d.toNat ≠ 0 := by
      rw [Nat.mul_ne_zero_iff]
      exact ⟨fun h => h.1, fun h => ⟨h, by omega⟩⟩
    rw [e]
    exact ⟨fun g => ⟨h, g.2⟩, fun g => ⟨by omega, g.2⟩⟩
  · refine ⟨fun g => absurd ?_ g.2, fun g => absurd g.1 h⟩
    have : x * 2 ^ k = (x * 2 ^ (-d).toNat) * 2 ^ (d + (k : Int)).toNat := by
      have := g.1
      rw [Nat.mul_assoc, ← Nat.pow_add, show (-d).toNat + (d + (k : Int)).toNat = k by omega]
    rw [this, Nat.mul_mod_left]
/-- How many bits. -/
theorem len_scale (x k : Nat) (hx : 0 < x) : (bl (x * 2 ^ k)).length = (bl x).length + k := by
  have h1 := (bl_length_le x (bl x).length).1 (Nat.le_refl _)
  have h0 : 0 < (bl x).length := (bl_length_lt x 0).2 (by rw [Nat.pow_zero]; exact hx)
  have h2 := (bl_length_lt x ((bl x).length - 1)).1 (by omega)
  have a : (bl (x * 2 ^ k)).length ≤ (bl x).length + k := by
    rw [bl_length_le, Nat.pow_add]
    exact Nat.mul_lt_mul_of_pos_right h1 (Nat.two_pow_pos _)
  have b : (bl x).length - 1 + k < (bl (x * 2 ^ k)).length := by
    rw [bl_length_lt, Nat.pow_add]
    exact Nat.mul_le_mul_right _ h2
  omega
theorem len_sticky (x t k : Nat) (hx : 0 < x) (ht : t < 2 ^ k) : (bl (x * 2 ^ k + t)).length = (bl x).length + k := by
  have h1 := (bl_length_le x (bl x).length).1 (Nat.le_refl _)
  have h0 : 0 < (bl x).length := (bl_length_lt x 0).2 (by rw [Nat.pow_zero]; exact hx)
  have h2 := (bl_length_lt x ((bl x).length - 1)).1 (by omega)
  have a : (bl (x * 2 ^ k + t)).length ≤ (bl x).length + k := by
    rw [bl_length_le, Nat.pow_add]
    have : (x + 1) * 2 ^ k ≤ 2 ^ (bl x).length * 2 ^ k := Nat.mul_le_mul_right _ h1
    rw [Nat.add_mul, Nat.one_mul] at this
    omega
  have b : (bl x).length - 1 + k < (bl (x * 2 ^ k + t)).length := by
    rw [bl_length_lt, Nat.pow_add]
    exact Nat.le_trans (Nat.mul_le_mul_right _ h2) (Nat.le_add_right _ _)
  omega
theorem len_mono (x y : Nat) (h : x ≤ y) : (bl x).length ≤ (bl y).length := by
  rw [bl_length_le]
  exact Nat.lt_of_le_of_lt h ((bl_length_le y _).1 (Nat.le_refl _))
/-- The place of the last bit that is kept of x 2^e. -/
def lastP (x : Nat) (e : Int) : Int := max (e + ((bl x).length : Int) - 53) (-1074)
theorem lastP_scale (x : Nat) (e : Int) (k : Nat) (hx : 0 < x) : lastP (x * 2 ^ k) e = lastP x (e + k) := by
  unfold lastP
  rw [len_scale x k hx]
  push_cast
  omega
/-- What is kept: at most 53 bits, or 2^53. -/
def keptP (x : Nat) (e : Int) : Nat := rneI x (lastP x e - e)
theorem keptP_scale (x : Nat) (e : Int) (k : Nat) (hx : 0 < x) : keptP (x * 2 ^ k) e = keptP x (e + k) := by
  unfold keptP
  rw [lastP_scale x e k hx, show lastP x (e + k) - e = (lastP x (e + k) - (e + k)) + k by omega, rneI_scale]
theorem keptP_le (x : Nat) (e : Int) : keptP x e ≤ 9007199254740992 := by
  have h1 := (bl_length_le x (bl x).length).1 (Nat.le_refl _)
  unfold keptP
  have hl : e + ((bl x).length : Int) - 53 ≤ lastP x e := by unfold lastP; omega
  generalize lastP x e = l at *
  unfold rneI
  split
  · refine rne_le _ _ _ (Nat.le_trans (Nat.le_of_lt h1) ?_)
    rw [show (9007199254740992 : Nat) = 2 ^ 53 by decide, ← Nat.pow_add]
    exact Nat.pow_le_pow_right (by decide) (by omega)
  · refine Nat.le_trans (Nat.mul_le_mul_right _ (Nat.le_of_lt h1)) ?_
    rw [show (9007199254740992 : Nat) = 2 ^ 53 by decide, ← Nat.pow_add]
    exact Nat.pow_le_pow_right (by decide) (by omega)
theorem keptP_ge (x : Nat) (e : Int) (hx : 0 < x) (h : -1074 < lastP x e) : 4503599627370496 ≤ keptP x e := by
  have h0 : 0 < (bl x).length := (bl_length_lt x 0).2 (by rw [Nat.pow_zero]; exact hx)
  have h2 := (bl_length_lt x ((bl x).length - 1)).1 (by omega)
  unfold keptP
  have hl : e + ((bl x).length : Int) - 53 = lastP x e := by unfold lastP at *; omega
  generalize lastP x e = l at *
  unfold rneI
  rw [show (4503599627370496 : Nat) = 2 ^ 52 by decide]
  split
  · refine rne_ge _ _ _ (Nat.le_trans ?_ h2)
    rw [← Nat.pow_add]
    exact Nat.pow_le_pow_right (by decide) (by omega)
  · refine Nat.le_trans ?_ (Nat.mul_le_mul_right _ h2)
    rw [← Nat.pow_add]
    exact Nat.pow_le_pow_right (by decide) (by omega)
/-- The pattern of the number nearest to x 2^e, as if exponents had no upper bound. -/
def patP (x : Nat) (e : Int) : Nat := if x = 0 then 0 else keptP x e + (lastP x e + 1074).toNat * 4503599627370496
theorem patP_scale (x : Nat) (e : Int) (k : Nat) : patP (x * 2 ^ k) e = patP x (e + k) := by
  have hp := Nat.two_pow_pos k
  unfold patP
  by_cases hx : x = 0
  · subst hx; rw [Nat.zero_mul, if_pos rfl, if_pos rfl]
  · have : x * 2 ^ k ≠ 0 := Nat.mul_ne_zero hx (by omega)
    rw [if_neg hx, if_neg this, keptP_scale x e k (by omega), lastP_scale x e k (by omega)]
theorem patP_mono (x y : Nat) (e : Int) (h : x ≤ y) : patP x e ≤ patP y e := by
  unfold patP
  by_cases hx : x = 0
  · rw [if_pos hx]; exact Nat.zero_le _
  · rw [if_neg hx, if_neg (by omega)]
    have hl := len_mono x y h
    have hll : lastP x e ≤ lastP y e := by unfold lastP; omega
    have hlm : -1074 ≤ lastP x e := by unfold lastP; omega
    by_cases g : lastP x e = lastP y e
    · have := rneI_mono x y (lastP x e - e) h
      unfold keptP
      rw [← g]
      omega
    · have k1 := keptP_le x e
      have k2 := keptP_ge y e (by omega) (by omega)
      omega
/-- Does the pattern tell less than x 2^e? -/
def lostP (x : Nat) (e : Int) : Bool := lostI x (lastP x e - e)
theorem lostP_scale (x : Nat) (e : Int) (k : Nat) (hx : 0 < x) : lostP (x * 2 ^ k) e = lostP x (e + k) := by
  unfold lostP
  rw [lastP_scale x e k hx, show lastP x (e + k) - e = (lastP x (e + k) - (e + k)) + k by omega, lostI_scale]
/-- Is it below 2^-1022? -/
def smallP (x : Nat) (e : Int) : Bool := decide (e + ((bl x).length : Int) < -1021)
theorem smallP_scale (x : Nat) (e : Int) (k : Nat) (hx : 0 < x) : smallP (x * 2 ^ k) e = smallP x (e + k) := by
  unfold smallP
  rw [len_scale x k hx, decide_eq_decide]
  push_cast
  omega
/-- The flags: Inexact 1, Under 2, Over 4. -/
def flagP (x : Nat) (e : Int) : Nat := if 9218868437227405312 ≤ patP x e then 5 else if x ≠ 0 ∧ lostP x e = true then (if smallP x e then 3 else 1) else 0
/-- The pattern without its sign. -/
def numP (x : Nat) (e : Int) : Nat := min (patP x e) 9218868437227405312
theorem flagP_scale (x : Nat) (e : Int) (k : Nat) : flagP (x * 2 ^ k) e = flagP x (e + k) := by
  have hp := Nat.two_pow_pos k
  unfold flagP
  rw [patP_scale]
  by_cases hx : x = 0
  · subst hx; rw [Nat.zero_mul]; simp
  · have : x * 2 ^ k ≠ 0 := Nat.mul_ne_zero hx (by omega)
    rw [lostP_scale x e k (by omega), smallP_scale x e k (by omega)]
    simp only [ne_eq, hx, this]
theorem numP_scale (x : Nat) (e : Int) (k : Nat) : numP (x * 2 ^ k) e = numP x (e + k) := by unfold numP; rw [patP_scale]
theorem numP_mono (x y : Nat) (e : Int) (h : x ≤ y) : numP x e ≤ numP y e := by
  have := patP_mono x y e h
  unfold numP
  omega
/-- A little more than x 2^e, told by whatever lies beneath: where at least one bit of x falls out. -/
theorem sticky_all (x t k t' k' : Nat) (e : Int) (hx : 0 < x) (hd : e < lastP x e) (ht : 0 < t) (htk : t < 2 ^ k) (ht' : 0 < t') (htk' : t' < 2 ^ k') :
    patP (x * 2 ^ k + t) (e - k) = patP (x * 2 ^ k' + t') (e - k') := by
  have key : ∀ t k : Nat, 0 < t → t < 2 ^ k → patP (x * 2 ^ k + t) (e - k) = x / 2 ^ (lastP x e - e).toNat + (if 2 ^ (lastP x e - e).toNat ≤ 2 * (x % 2 ^ (lastP x e - e).toNat) then 1 else 0) + (lastP x e + 1074).toNat * 4503599627370496 := by
    intro t k ht hk
    have hl : lastP (x * 2 ^ k + t) (e - k) = lastP x e := by
      unfold lastP
      rw [len_sticky x t k hx hk]
      push_cast
      omega
    unfold patP keptP
    rw [if_neg (by omega), hl]
    unfold rneI
    rw [if_pos (by omega), show (lastP x e - (e - (k : Int))).toNat = (lastP x e - e).toNat + k by omega, rne_sticky x t _ k (by omega) ht hk]
  rw [key t k ht htk, key t' k' ht' htk']
theorem sticky_lost (x t k : Nat) (e : Int) (hx : 0 < x) (hd : e < lastP x e) (ht : 0 < t) (htk : t < 2 ^ k) : lostP (x * 2 ^ k + t) (e - k) = true ∧ smallP (x * 2 ^ k + t) (e - k) = smallP x e := by
  have hl : lastP (x * 2 ^ k + t) (e - k) = lastP x e := by
    unfold lastP
    rw [len_sticky x t k hx htk]
    push_cast
    omega
  refine ⟨?_, ?_⟩
  · unfold lostP lostI
    rw [hl, decide_eq_true_eq]
    refine ⟨by omega, ?_⟩
    rw [show (lastP x e - (e - (k : Int))).toNat = k + (lastP x e - e).toNat by omega, Nat.pow_add]
    intro g
    have h1 : (x * 2 ^ k + t) % 2 ^ k = 0 := by
      rw [← Nat.mod_mul_right_mod (x * 2 ^ k + t) (2 ^ k) (2 ^ (lastP x e - e).toNat), g, Nat.zero_mod]
    rw [Nat.add_comm, Nat.add_mul_mod_self_right, Nat.mod_eq_of_lt htk] at h1
    omega
  · unfold smallP
    rw [len_sticky x t k hx htk, decide_eq_decide]
    push_cast
    omega
end Go.Proofs.Ytokgfeeaoioegaa
