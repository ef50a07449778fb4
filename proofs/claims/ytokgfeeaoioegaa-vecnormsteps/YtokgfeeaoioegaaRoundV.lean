/-
  What a pattern without its sign stands for, as a whole number times 2^-1074, and what rounding makes of it (plain mathematics, no program in sight).
-/
import Derived.Test.YtokgfeeaoioegaaRoundM
namespace Go.Proofs.Ytokgfeeaoioegaa
set_option linter.unusedVariables false

/-- What a pattern without sign stands for, times 2^1074. -/
def V (p : Nat) : Nat := if p < 4503599627370496 then p else (4503599627370496 + p % 4503599627370496) * 2 ^ (p / 4503599627370496 - 1)
theorem V_split (k d : Nat) (hk : k ≤ 9007199254740992) (h : 4503599627370496 ≤ k ∨ d = 0) : V (k + d * 4503599627370496) = k * 2 ^ d := by
  unfold V
  by_cases h1 : k < 4503599627370496
  · obtain rfl : d = 0 := by omega
    rw [if_pos (by omega), Nat.pow_zero]
    omega
  · rw [if_neg (by omega)]
    by_cases h2 : k = 9007199254740992
    · subst h2
      rw [show (9007199254740992 + d * 4503599627370496) % 4503599627370496 = 0 by omega, show (9007199254740992 + d * 4503599627370496) / 4503599627370496 - 1 = d + 1 by omega, Nat.pow_succ]
      omega
    · rw [show (k + d * 4503599627370496) % 4503599627370496 = k - 4503599627370496 by omega, show (k + d * 4503599627370496) / 4503599627370496 - 1 = d by omega, show 4503599627370496 + (k - 4503599627370496) = k by omega]
theorem V_form (p : Nat) : ∃ k d : Nat, p = k + d * 4503599627370496 ∧ V p = k * 2 ^ d ∧ k < 9007199254740992 ∧ (4503599627370496 ≤ k ∨ d = 0) := by
  by_cases h : p < 4503599627370496
  · exact ⟨p, 0, by omega, by rw [Nat.pow_zero, Nat.mul_one]; unfold V; rw [if_pos h], by omega, Or.inr rfl⟩
  · refine ⟨4503599627370496 + p % 4503599627370496, p / 4503599627370496 - 1, by omega, ?_, by omega, Or.inl (by omega)⟩
    unfold V
    rw [if_neg h]
theorem lastP_exact (m : Nat) (e : Int) (hm : m < 9007199254740992) (he : -1074 ≤ e) (hn : 4503599627370496 ≤ m ∨ e = -1074) : lastP m e = e := by
  have h1 : (bl m).length ≤ 53 := (bl_length_le m 53).2 hm
  unfold lastP
  rcases hn with hn | hn
  · have h2 : 52 < (bl m).length := (bl_length_lt m 52).2 hn
    omega
  · omega
theorem patP_exact (m : Nat) (e : Int) (h0 : 0 < m) (hm : m < 9007199254740992) (he : -1074 ≤ e) (hn : 4503599627370496 ≤ m ∨ e = -1074) : patP m e = m + (e + 1074).toNat * 4503599627370496 := by
  unfold patP keptP rneI
  rw [if_neg (by omega), lastP_exact m e hm he hn, if_neg (by omega), show (-(e - e)).toNat = 0 by omega, Nat.pow_zero, Nat.mul_one]
theorem lostP_exact (m : Nat) (e : Int) (hm : m < 9007199254740992) (he : -1074 ≤ e) (hn : 4503599627370496 ≤ m ∨ e = -1074) : lostP m e = false := by
  unfold lostP lostI
  rw [lastP_exact m e hm he hn, decide_eq_false_iff_not]
  omega
/-- A pattern's number is rounded to it. -/
theorem patP_V (p : Nat) : patP (V p) (-1074) = p := by
  obtain ⟨k, d, e, hv, hk, hd⟩ := V_form p
  by_cases h0 : k = 0
  · subst h0
    obtain rfl : d = 0 := by omega
    rw [hv, Nat.zero_mul]
    unfold patP
    rw [if_pos rfl]
    omega
  · rw [hv, patP_scale, patP_exact k _ (by omega) hk (by omega) (by omega), show (-1074 + (d : Int) + 1074).toNat = d by omega]
    exact e.symm
theorem lostP_V (p : Nat) : lostP (V p) (-1074) = false ∨ V p = 0 := by
  obtain ⟨k, d, e, hv, hk, hd⟩ := V_form p
  by_cases h0 : k = 0
  · right; rw [hv, h0, Nat.zero_mul]
  · left; rw [hv, lostP_scale k _ d (by omega), lostP_exact k _ hk (by omega) (by omega)]
theorem V_mono (p q : Nat) (h : p ≤ q) : V p ≤ V q := by
  rcases Nat.lt_or_ge (V q) (V p) with g | g
  · have := patP_mono _ _ (-1074) (Nat.le_of_lt g)
    rw [patP_V, patP_V] at this
    have e : p = q := Nat.le_antisymm h this
    rw [e] at g
    omega
  · exact g
theorem V_lt (p q : Nat) (h : p < q) : V p < V q := by
  rcases Nat.lt_or_ge (V p) (V q) with g | g
  · exact g
  · have := patP_mono _ _ (-1074) g
    rw [patP_V, patP_V] at this
    omega
theorem V_inj (p q : Nat) (h : V p = V q) : p = q := by rw [← patP_V p, h, patP_V]
theorem V_zero : V 0 = 0 := by unfold V; rfl
theorem V_pos (p : Nat) (h : 0 < p) : 0 < V p := by have := V_lt 0 p h; rw [V_zero] at this; exact this
theorem V_le_iff (p q : Nat) : V p ≤ V q ↔ p ≤ q := ⟨fun h => Nat.le_of_not_lt fun g => by have := V_lt _ _ g; omega, V_mono p q⟩
/-- What the rounded pattern stands for. -/
theorem V_pat (x : Nat) (hx : 0 < x) : V (patP x (-1074)) = keptP x (-1074) * 2 ^ (lastP x (-1074) + 1074).toNat := by
  unfold patP
  rw [if_neg (by omega)]
  refine V_split _ _ (keptP_le _ _) ?_
  by_cases h : lastP x (-1074) = -1074
  · right; omega
  · left
    have hl : -1074 ≤ lastP x (-1074) := by unfold lastP; omega
    exact keptP_ge x _ hx (by omega)
theorem V_exact (x : Nat) (h : lostP x (-1074) = false) : V (patP x (-1074)) = x := by
  by_cases hx : x = 0
  · subst hx; unfold patP; rw [if_pos rfl, V_zero]
  · rw [V_pat x (by omega)]
    have hl : -1074 ≤ lastP x (-1074) := by unfold lastP; omega
    unfold lostP lostI at h
    rw [decide_eq_false_iff_not] at h
    unfold keptP rneI
    rw [show lastP x (-1074) - -1074 = lastP x (-1074) + 1074 by omega] at *
    have hl0 : 0 ≤ lastP x (-1074) + 1074 := by omega
    generalize lastP x (-1074) + 1074 = d at *
    by_cases g : 0 < d
    · rw [if_pos g]
      have hm : x % 2 ^ d.toNat = 0 := by
        rcases Nat.eq_zero_or_pos (x % 2 ^ d.toNat) with k | k
        · exact k
        · exact absurd ⟨g, by omega⟩ h
      have he := Nat.div_add_mod x (2 ^ d.toNat)
      rw [hm, Nat.add_zero, Nat.mul_comm] at he
      conv => lhs; rw [← he]
      rw [rne_mul, he]
    · obtain rfl : d = 0 := by omega
      rw [if_neg g]
      simp
/-- A number of at most 53 bits, times a power of two, is told just so. -/
theorem told (c d : Nat) (hc : c ≤ 9007199254740992) : lostP (c * 2 ^ d) (-1074) = false := by
  by_cases h0 : c = 0
  · subst h0
    rw [Nat.zero_mul]
    unfold lostP lostI
    rw [decide_eq_false_iff_not, Nat.zero_mod]
    omega
  · rw [lostP_scale c _ d (by omega)]
    by_cases h1 : c = 9007199254740992
    · subst h1
      have h2 : lastP 9007199254740992 (-1074 + (d : Int)) = d - 1073 := by
        have e : (bl 9007199254740992).length = 54 := by
          have a := (bl_length_le 9007199254740992 54).2 (by decide)
          have b := (bl_length_lt 9007199254740992 53).2 (by decide)
          omega
        unfold lastP
        rw [e]
        omega
      unfold lostP lostI
      rw [h2, decide_eq_false_iff_not, show ((d : Int) - 1073 - (-1074 + (d : Int))).toNat = 1 by omega]
      omega
    · have h1 : (bl c).length ≤ 53 := (bl_length_le c 53).2 (by omega)
      have h2 : lastP c (-1074 + (d : Int)) ≤ -1074 + (d : Int) := by unfold lastP; omega
      unfold lostP lostI
      rw [decide_eq_false_iff_not]
      omega
/-- The nearest: twice the number lies between the sums with the pattern beneath and with the one above. -/
theorem near_all (x p : Nat) (hx : 0 < x) (hp : p = patP x (-1074)) :
    2 * x ≤ V p + V (p + 1) ∧ (0 < p → V (p - 1) + V p ≤ 2 * x) := by
  have hl : -1074 ≤ lastP x (-1074) := by unfold lastP; omega
  have hv := V_pat x hx
  have hkl := keptP_le x (-1074)
  have hkg := keptP_ge x (-1074) hx
  have hL : (((bl x).length : Int) - 1127 ≤ lastP x (-1074)) ∧ (-1074 < lastP x (-1074) → lastP x (-1074) = ((bl x).length : Int) - 1127) := by unfold lastP; omega
  have hlen := (bl_length_lt x ((bl x).length - 1)).1 (by have := (bl_length_lt x 0).2 (by rw [Nat.pow_zero]; exact hx); omega)
  have hn : 2 * V p ≤ 2 * x + 2 ^ (lastP x (-1074) + 1074).toNat ∧ 2 * x ≤ 2 * V p + 2 ^ (lastP x (-1074) + 1074).toNat := by
    rw [hp, hv]
    unfold keptP rneI
    rw [show lastP x (-1074) - -1074 = lastP x (-1074) + 1074 by omega]
    have hl0 : 0 ≤ lastP x (-1074) + 1074 := by omega
    generalize lastP x (-1074) + 1074 = d at *
    by_cases g : 0 < d
    · rw [if_pos g]; exact rne_near x d.toNat
    · obtain rfl : d = 0 := by omega
      rw [if_neg g]
      simp
  have hp2 : p = keptP x (-1074) + (lastP x (-1074) + 1074).toNat * 4503599627370496 := by
    rw [hp]; unfold patP; rw [if_neg (by omega)]
  rw [← hp] at hv
  obtain ⟨d, hd⟩ : ∃ d : Nat, lastP x (-1074) + 1074 = d := ⟨(lastP x (-1074) + 1074).toNat, by omega⟩
  rw [hd, Int.toNat_natCast] at hn hv hp2
  have hk2 : 4503599627370496 ≤ keptP x (-1074) ∨ d = 0 := by
    by_cases g : d = 0
    · exact Or.inr g
    · exact Or.inl (hkg (by omega))
  have hX : 0 < d → 4503599627370496 * 2 ^ d ≤ x := by
    intro g
    refine Nat.le_trans ?_ hlen
    rw [show (4503599627370496 : Nat) = 2 ^ 52 by decide, ← Nat.pow_add]
    exact Nat.pow_le_pow_right (by decide) (by omega)
  generalize keptP x (-1074) = k at *
  have hpd := Nat.two_pow_pos d
  refine ⟨?_, ?_⟩
  · have hup : V p + 2 ^ d ≤ V (p + 1) := by
      by_cases g : k = 9007199254740992
      · have e : V (p + 1) = (4503599627370497) * 2 ^ (d + 1) := by
          rw [← V_split 4503599627370497 (d + 1) (by omega) (by omega)]
          congr 1
          omega
        rw [e, hv, g, Nat.pow_succ]
        omega
      · have e : V (p + 1) = (k + 1) * 2 ^ d := by
          rw [← V_split (k + 1) d (by omega) (by omega)]
          congr 1
          omega
        rw [e, hv, Nat.add_mul, Nat.one_mul]
        exact Nat.le_refl _
    omega
  · intro hp0
    by_cases g : k = 4503599627370496 ∧ 0 < d
    · have hx2 := hX g.2
      rw [g.1] at hv
      have : V (p - 1) ≤ V p := V_mono _ _ (by omega)
      rw [hv] at *
      omega
    · have e : V (p - 1) + 2 ^ d = V p := by
        have e : V (p - 1) = (k - 1) * 2 ^ d := by
          rw [← V_split (k - 1) d (by omega) (by omega)]
          congr 1
          omega
        have hk1 : 1 ≤ k := by omega
        rw [e, hv]
        obtain ⟨j, rfl⟩ : ∃ j, k = j + 1 := ⟨k - 1, by omega⟩
        rw [Nat.add_sub_cancel, Nat.add_mul, Nat.one_mul]
      omega
/-- Times a power of two, where nothing is small. -/
theorem patP_power (x n : Nat) (e : Int) (hx : 0 < x) (h : -1021 ≤ e + ((bl x).length : Int)) : patP x (e + n) = patP x e + n * 4503599627370496 ∧ lostP x (e + n) = lostP x e ∧ smallP x (e + n) = smallP x e := by
  have h1 : lastP x (e + n) = lastP x e + n := by unfold lastP; omega
  have h2 : -1074 ≤ lastP x e := by unfold lastP; omega
  refine ⟨?_, ?_, ?_⟩
  · unfold patP keptP
    rw [if_neg (by omega), if_neg (by omega), h1, show lastP x e + (n : Int) - (e + (n : Int)) = lastP x e - e by omega]
    omega
  · unfold lostP
    rw [h1, show lastP x e + (n : Int) - (e + (n : Int)) = lastP x e - e by omega]
  · unfold smallP
    rw [decide_eq_decide]
    omega
end Go.Proofs.Ytokgfeeaoioegaa
