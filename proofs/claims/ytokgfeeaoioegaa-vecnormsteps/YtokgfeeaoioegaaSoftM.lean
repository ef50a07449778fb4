/-
  Sums, products and quotients of patterns, as the document defines them (plain mathematics, no program in sight), and how the program lays them.
-/
import Derived.Test.YtokgfeeaoioegaaPartM
namespace Go.Proofs.Ytokgfeeaoioegaa
set_option linter.unusedVariables false

def sgn (b : Int) : Bool := decide (9223372036854775808 ≤ b)
/-- What a pattern stands for, times 2^1074. -/
def sv (b : Int) : Int := if sgn b then -((V (mag b) : Nat) : Int) else ((V (mag b) : Nat) : Int)
def sigs (b : Int) : Bool := decide (wKind b = 5 ∧ b / 2251799813685248 % 2 = 0)
def nanF (a b : Int) : Int := if sigs a || sigs b then 16 else 0
def isNan (b : Int) : Bool := decide (9218868437227405312 < mag b)
def isInf (b : Int) : Bool := decide (mag b = 9218868437227405312)
def isZ (b : Int) : Bool := decide (mag b = 0)
/-- A number with its sign, rounded. -/
def rndS (s : Int) : Int × Int := (sgnB (decide (s < 0)) + ((numP s.natAbs (-1074) : Nat) : Int), ((flagP s.natAbs (-1074) : Nat) : Int))
def addS (a b : Int) : Int × Int :=
  if isNan a || isNan b then (9221120237041090560, nanF a b)
  else if isInf a && isInf b && decide (a ≠ b) then (9221120237041090560, 16)
  else if isInf a then (a, 0)
  else if isInf b then (b, 0)
  else if isZ a && isZ b then (sgnB (sgn a && sgn b), 0)
  else rndS (sv a + sv b)
def mulS (a b : Int) : Int × Int :=
  if isNan a || isNan b then (9221120237041090560, nanF a b)
  else if (isInf a && isZ b) || (isZ a && isInf b) then (9221120237041090560, 16)
  else if isInf a || isInf b then (sgnB (sgn a != sgn b) + 9218868437227405312, 0)
  else (sgnB (sgn a != sgn b) + ((numP (V (mag a) * V (mag b)) (-2148) : Nat) : Int), ((flagP (V (mag a) * V (mag b)) (-2148) : Nat) : Int))
def jj : Nat := 3000
theorem jj_is : (jj : Int) = 3000 := rfl
/-- The quotient of two numbers, with 3000 bits more than it needs. -/
def quoN (x y : Nat) : Nat := numM (x * 2 ^ jj / y) (-(jj : Int)) (decide (x * 2 ^ jj % y ≠ 0))
def quoF (x y : Nat) : Nat := flagM (x * 2 ^ jj / y) (-(jj : Int)) (decide (x * 2 ^ jj % y ≠ 0))
def divS (a b : Int) : Int × Int :=
  if isNan a || isNan b then (9221120237041090560, nanF a b)
  else if (isInf a && isInf b) || (isZ a && isZ b) then (9221120237041090560, 16)
  else if isInf a then (sgnB (sgn a != sgn b) + 9218868437227405312, 0)
  else if isInf b || isZ a then (sgnB (sgn a != sgn b), 0)
  else if isZ b then (sgnB (sgn a != sgn b) + 9218868437227405312, 8)
  else (sgnB (sgn a != sgn b) + ((quoN (V (mag a)) (V (mag b)) : Nat) : Int), ((quoF (V (mag a)) (V (mag b)) : Nat) : Int))

theorem numP_le (x : Nat) (e : Int) : numP x e ≤ 9218868437227405312 := by unfold numP; omega
theorem flagP_le (x : Nat) (e : Int) : flagP x e ≤ 5 := by
  unfold flagP; repeat' split
  all_goals omega
theorem numR_le (x : Nat) (e : Int) (m : Bool) : numR x e m ≤ 9218868437227405312 := by
  unfold numR; split
  · omega
  · exact numP_le _ _
theorem sgnB_le (n : Bool) : 0 ≤ sgnB n ∧ sgnB n ≤ 9223372036854775808 := by cases n <;> simp [sgnB]
theorem nanF_cases (a b : Int) : nanF a b = 0 ∨ nanF a b = 16 := by unfold nanF; split <;> omega
theorem rndS_bd (s : Int) : 0 ≤ (rndS s).1 ∧ (rndS s).1 < 18446744073709551616 ∧ 0 ≤ (rndS s).2 ∧ (rndS s).2 ≤ 31 := by
  have h1 := numP_le s.natAbs (-1074)
  have h2 := flagP_le s.natAbs (-1074)
  have h3 := sgnB_le (decide (s < 0))
  unfold rndS
  refine ⟨?_, ?_, ?_, ?_⟩ <;> simp only <;> omega
theorem addS_bd (a b : Int) (h0 : 0 ≤ a) (h1 : a < 18446744073709551616) (g0 : 0 ≤ b) (g1 : b < 18446744073709551616) : 0 ≤ (addS a b).1 ∧ (addS a b).1 < 18446744073709551616 ∧ 0 ≤ (addS a b).2 ∧ (addS a b).2 ≤ 31 := by
  have hn := nanF_cases a b
  have hs := sgnB_le (sgn a && sgn b)
  have hr := rndS_bd (sv a + sv b)
  unfold addS
  repeat' split
  all_goals first | exact hr | (refine ⟨?_, ?_, ?_, ?_⟩ <;> simp only <;> omega)
theorem mulS_bd (a b : Int) : 0 ≤ (mulS a b).1 ∧ (mulS a b).1 < 18446744073709551616 ∧ 0 ≤ (mulS a b).2 ∧ (mulS a b).2 ≤ 31 := by
  have hn := nanF_cases a b
  have hs := sgnB_le (sgn a != sgn b)
  have h1 := numP_le (V (mag a) * V (mag b)) (-2148)
  have h2 := flagP_le (V (mag a) * V (mag b)) (-2148)
  unfold mulS
  repeat' split
  all_goals (refine ⟨?_, ?_, ?_, ?_⟩ <;> simp only <;> omega)
theorem numM_le (x : Nat) (e : Int) (m : Bool) : numM x e m ≤ 9218868437227405312 := by unfold numM; exact numP_le _ _
theorem flagM_le (x : Nat) (e : Int) (m : Bool) : flagM x e m ≤ 5 := by unfold flagM; exact flagP_le _ _
theorem divS_bd (a b : Int) : 0 ≤ (divS a b).1 ∧ (divS a b).1 < 18446744073709551616 ∧ 0 ≤ (divS a b).2 ∧ (divS a b).2 ≤ 31 := by
  have hn := nanF_cases a b
  have hs := sgnB_le (sgn a != sgn b)
  have h1 : quoN (V (mag a)) (V (mag b)) ≤ 9218868437227405312 := by unfold quoN; exact numM_le _ _ _
  have h2 : quoF (V (mag a)) (V (mag b)) ≤ 5 := by unfold quoF; exact flagM_le _ _ _
  unfold divS
  repeat' split
  all_goals (refine ⟨?_, ?_, ?_, ?_⟩ <;> simp only <;> omega)

/-- Bits beneath, told as a little more: of the program's rounding. -/
theorem shift_num (N d : Nat) (E : Int) (hbig : N % 2 ^ d ≠ 0 → 18014398509481984 ≤ N / 2 ^ d) :
    numR (N / 2 ^ d) E (decide (N % 2 ^ d ≠ 0)) = numP N (E - d) ∧ flagR (N / 2 ^ d) E (decide (N % 2 ^ d ≠ 0)) = flagP N (E - d) := by
  by_cases h : N % 2 ^ d = 0
  · have hN := Nat.div_add_mod N (2 ^ d)
    rw [h, Nat.add_zero, Nat.mul_comm] at hN
    rw [show decide (N % 2 ^ d ≠ 0) = false from decide_eq_false (fun k => k h), (numR_false _ _).1, (numR_false _ _).2]
    have a := numP_scale (N / 2 ^ d) (E - d) d
    have b := flagP_scale (N / 2 ^ d) (E - d) d
    rw [hN, Int.sub_add_cancel] at a b
    exact ⟨a.symm, b.symm⟩
  · have hb := hbig h
    have hlen : 54 < (bl (N / 2 ^ d)).length := (bl_length_lt _ 54).2 hb
    have hL : E < lastP (N / 2 ^ d) E := by unfold lastP; omega
    have m := more_shift N d E (by omega) hL
    rw [(numR_more _ E _ (by omega) hL).1, (numR_more _ E _ (by omega) hL).2]
    exact m
theorem lay_num (M : Nat) (e : Int) (he : -1074 ≤ e) : numP (M * 2 ^ (e + 1074).toNat) (-1074) = numP M e ∧ flagP (M * 2 ^ (e + 1074).toNat) (-1074) = flagP M e := by
  rw [numP_scale, flagP_scale, show (-1074 : Int) + ((e + 1074).toNat : Int) = e by omega]
  exact ⟨rfl, rfl⟩
theorem lay_64 (M : Nat) (e : Int) : numP (M * 2 ^ 64) (e - 64) = numP M e ∧ flagP (M * 2 ^ 64) (e - 64) = flagP M e := by
  rw [numP_scale, flagP_scale, show e - 64 + ((64 : Nat) : Int) = e by omega]
  exact ⟨rfl, rfl⟩
theorem lost_deep (P d : Nat) (h : P * 2 ^ 64 % 2 ^ d ≠ 0) : 64 < d := by
  rcases Nat.lt_or_ge 64 d with g | g
  · exact g
  · exfalso
    apply h
    obtain ⟨k, hk⟩ : ∃ k, 64 = d + k := ⟨64 - d, by omega⟩
    rw [hk, Nat.pow_add, ← Nat.mul_assoc, Nat.mul_comm P, Nat.mul_assoc]
    exact Nat.mul_mod_right _ _
theorem add_lay (W P : Nat) (e1 e2 : Int) (h1 : -1074 ≤ e1) (h2 : -1074 ≤ e2) (hP : P = 0 ∨ (e2 ≤ e1 ∧ (e1 = e2 ∨ 4503599627370496 ≤ W))) :
    numR (W * 2 ^ 64 + P * 2 ^ 64 / 2 ^ (e1 - e2).toNat) (e1 - 64) (decide (P * 2 ^ 64 % 2 ^ (e1 - e2).toNat ≠ 0)) = numP (W * 2 ^ (e1 + 1074).toNat + P * 2 ^ (e2 + 1074).toNat) (-1074)
    ∧ flagR (W * 2 ^ 64 + P * 2 ^ 64 / 2 ^ (e1 - e2).toNat) (e1 - 64) (decide (P * 2 ^ 64 % 2 ^ (e1 - e2).toNat ≠ 0)) = flagP (W * 2 ^ (e1 + 1074).toNat + P * 2 ^ (e2 + 1074).toNat) (-1074) := by
  rcases hP with rfl | ⟨he, hW⟩
  · rw [Nat.zero_mul, Nat.zero_div, Nat.zero_mod, Nat.zero_mul, Nat.add_zero, Nat.add_zero, show decide ((0 : Nat) ≠ 0) = false from rfl, (numR_false _ _).1, (numR_false _ _).2, (lay_64 W e1).1, (lay_64 W e1).2, (lay_num W e1 h1).1, (lay_num W e1 h1).2]
    exact ⟨rfl, rfl⟩
  · obtain ⟨d, hd⟩ : ∃ d : Nat, (e1 - e2).toNat = d := ⟨_, rfl⟩
    rw [hd]
    have hp := Nat.two_pow_pos d
    have hN : (W * 2 ^ d + P) * 2 ^ 64 = P * 2 ^ 64 + 2 ^ d * (W * 2 ^ 64) := by rw [Nat.add_mul, Nat.mul_comm W, Nat.mul_assoc, Nat.add_comm]
    have q1 : (W * 2 ^ d + P) * 2 ^ 64 / 2 ^ d = W * 2 ^ 64 + P * 2 ^ 64 / 2 ^ d := by rw [hN, Nat.add_mul_div_left _ _ hp, Nat.add_comm]
    have q2 : (W * 2 ^ d + P) * 2 ^ 64 % 2 ^ d = P * 2 ^ 64 % 2 ^ d := by rw [hN, Nat.add_mul_mod_self_left]
    have s := shift_num ((W * 2 ^ d + P) * 2 ^ 64) d (e1 - 64) (by
      intro hl
      rw [q2] at hl
      have := lost_deep P d hl
      have hW2 : 4503599627370496 ≤ W := by omega
      rw [q1]
      exact Nat.le_trans (Nat.le_trans (by decide) (Nat.mul_le_mul_right (2 ^ 64) hW2)) (Nat.le_add_right _ _))
    rw [q1, q2, show e1 - 64 - (d : Int) = e2 - 64 by omega, (lay_64 _ e2).1, (lay_64 _ e2).2, ← (lay_num _ e2 h2).1, ← (lay_num _ e2 h2).2] at s
    rw [s.1, s.2, Nat.add_mul, Nat.mul_assoc, ← Nat.pow_add, show d + (e2 + 1074).toNat = (e1 + 1074).toNat by omega]
    exact ⟨rfl, rfl⟩
theorem sub_lay (W P : Nat) (e1 e2 : Int) (h1 : -1074 ≤ e1) (h2 : -1074 ≤ e2) (hPl : P < 9007199254740992) (hP : P = 0 ∨ (e2 ≤ e1 ∧ (e1 = e2 ∨ 4503599627370496 ≤ W))) (hle : P * 2 ^ (e2 + 1074).toNat ≤ W * 2 ^ (e1 + 1074).toNat) :
    (P * 2 ^ 64 / 2 ^ (e1 - e2).toNat + (decide (P * 2 ^ 64 % 2 ^ (e1 - e2).toNat ≠ 0)).toNat ≤ W * 2 ^ 64)
    ∧ (W * 2 ^ 64 - (P * 2 ^ 64 / 2 ^ (e1 - e2).toNat + (decide (P * 2 ^ 64 % 2 ^ (e1 - e2).toNat ≠ 0)).toNat) = 0 ↔ W * 2 ^ (e1 + 1074).toNat = P * 2 ^ (e2 + 1074).toNat)
    ∧ numR (W * 2 ^ 64 - (P * 2 ^ 64 / 2 ^ (e1 - e2).toNat + (decide (P * 2 ^ 64 % 2 ^ (e1 - e2).toNat ≠ 0)).toNat)) (e1 - 64) (decide (P * 2 ^ 64 % 2 ^ (e1 - e2).toNat ≠ 0)) = numP (W * 2 ^ (e1 + 1074).toNat - P * 2 ^ (e2 + 1074).toNat) (-1074)
    ∧ flagR (W * 2 ^ 64 - (P * 2 ^ 64 / 2 ^ (e1 - e2).toNat + (decide (P * 2 ^ 64 % 2 ^ (e1 - e2).toNat ≠ 0)).toNat)) (e1 - 64) (decide (P * 2 ^ 64 % 2 ^ (e1 - e2).toNat ≠ 0)) = flagP (W * 2 ^ (e1 + 1074).toNat - P * 2 ^ (e2 + 1074).toNat) (-1074) := by
  rcases hP with rfl | ⟨he, hW⟩
  · have hp1 := Nat.two_pow_pos (e1 + 1074).toNat
    rw [Nat.zero_mul, Nat.zero_div, Nat.zero_mod, Nat.zero_mul, show decide ((0 : Nat) ≠ 0) = false from rfl, show (false : Bool).toNat = 0 from rfl, Nat.add_zero, Nat.sub_zero, Nat.sub_zero, (numR_false _ _).1, (numR_false _ _).2, (lay_64 W e1).1, (lay_64 W e1).2, (lay_num W e1 h1).1, (lay_num W e1 h1).2]
    refine ⟨Nat.zero_le _, ?_, rfl, rfl⟩
    rw [Nat.mul_eq_zero, Nat.mul_eq_zero]
    omega
  · obtain ⟨d, hd⟩ : ∃ d : Nat, (e1 - e2).toNat = d := ⟨_, rfl⟩
    rw [hd]
    have hp := Nat.two_pow_pos d
    have hg := Nat.two_pow_pos (e2 + 1074).toNat
    have e12 : W * 2 ^ (e1 + 1074).toNat = W * 2 ^ d * 2 ^ (e2 + 1074).toNat := by
      rw [Nat.mul_assoc, ← Nat.pow_add, show d + (e2 + 1074).toNat = (e1 + 1074).toNat by omega]
    rw [e12] at hle ⊢
    have hle2 : P ≤ W * 2 ^ d := Nat.le_of_mul_le_mul_right hle hg
    have hle3 : P * 2 ^ 64 ≤ W * 2 ^ 64 * 2 ^ d := by
      rw [Nat.mul_assoc, Nat.mul_comm (2 ^ 64), ← Nat.mul_assoc]
      exact Nat.mul_le_mul_right _ hle2
    obtain ⟨f1, f2⟩ := sub_floor (W * 2 ^ 64) (P * 2 ^ 64) d hle3
    have hN : W * 2 ^ 64 * 2 ^ d - P * 2 ^ 64 = (W * 2 ^ d - P) * 2 ^ 64 := by
      rw [Nat.sub_mul, Nat.mul_assoc, Nat.mul_comm (2 ^ 64), ← Nat.mul_assoc]
    rw [hN] at f1 f2
    have hbound : P * 2 ^ 64 / 2 ^ d + (decide (P * 2 ^ 64 % 2 ^ d ≠ 0)).toNat ≤ W * 2 ^ 64 := by
      by_cases hl : P * 2 ^ 64 % 2 ^ d = 0
      · rw [decide_eq_false (fun k => k hl), show (false : Bool).toNat = 0 from rfl, Nat.add_zero]
        exact Nat.div_le_of_le_mul (by rw [Nat.mul_comm (2 ^ d)]; exact hle3)
      · rw [decide_eq_true hl, show (true : Bool).toNat = 1 from rfl]
        have : P * 2 ^ 64 / 2 ^ d < W * 2 ^ 64 := by
          rw [Nat.div_lt_iff_lt_mul hp]
          rcases Nat.lt_or_eq_of_le hle3 with g | g
          · exact g
          · exfalso; apply hl; rw [g]; exact Nat.mul_mod_left _ _
        omega
    have hx : W * 2 ^ 64 - (P * 2 ^ 64 / 2 ^ d + (decide (P * 2 ^ 64 % 2 ^ d ≠ 0)).toNat) = (W * 2 ^ d - P) * 2 ^ 64 / 2 ^ d := by rw [f1, Nat.sub_sub]
    have hdec : decide (P * 2 ^ 64 % 2 ^ d ≠ 0) = decide ((W * 2 ^ d - P) * 2 ^ 64 % 2 ^ d ≠ 0) := by rw [decide_eq_decide]; exact f2.symm
    have big : (W * 2 ^ d - P) * 2 ^ 64 % 2 ^ d ≠ 0 → 18014398509481984 ≤ (W * 2 ^ d - P) * 2 ^ 64 / 2 ^ d := by
      intro hl
      have hd64 := lost_deep P d (f2.1 hl)
      have hW2 : 4503599627370496 ≤ W := by omega
      rw [f1]
      have t : (decide (P * 2 ^ 64 % 2 ^ d ≠ 0)).toNat ≤ 1 := Bool.toNat_le _
      have u : P * 2 ^ 64 / 2 ^ d ≤ P := by
        refine Nat.div_le_of_le_mul ?_
        rw [Nat.mul_comm]
        exact Nat.mul_le_mul_right _ (Nat.pow_le_pow_right (by decide) (by omega))
      have v : 4503599627370496 * 2 ^ 64 ≤ W * 2 ^ 64 := Nat.mul_le_mul_right _ hW2
      rw [show 4503599627370496 * 2 ^ 64 = 83076749736557242056487941267521536 by decide] at v
      omega
    have s := shift_num ((W * 2 ^ d - P) * 2 ^ 64) d (e1 - 64) big
    rw [show e1 - 64 - (d : Int) = e2 - 64 by omega, (lay_64 _ e2).1, (lay_64 _ e2).2, ← (lay_num _ e2 h2).1, ← (lay_num _ e2 h2).2] at s
    refine ⟨hbound, ?_, ?_, ?_⟩
    · rw [hx]
      constructor
      · intro hz
        by_cases hl : (W * 2 ^ d - P) * 2 ^ 64 % 2 ^ d = 0
        · have := Nat.div_add_mod ((W * 2 ^ d - P) * 2 ^ 64) (2 ^ d)
          rw [hz, hl, Nat.mul_zero, Nat.add_zero] at this
          have h0 := Nat.mul_eq_zero.1 this.symm
          have : W * 2 ^ d = P := by
            rcases h0 with h0 | h0
            · omega
            · exact absurd h0 (by decide)
          rw [this]
        · have := big hl; omega
      · intro hz
        have : W * 2 ^ d = P := Nat.eq_of_mul_eq_mul_right hg hz
        rw [this, Nat.sub_self, Nat.zero_mul, Nat.zero_div]
    · rw [hx, hdec, s.1, Nat.sub_mul]
    · rw [hx, hdec, s.2, Nat.sub_mul]
theorem mul_lay (x y : Nat) (e g : Int) (he : -1074 ≤ e) (hg : -1074 ≤ g) : numP (x * 2 ^ (e + 1074).toNat * (y * 2 ^ (g + 1074).toNat)) (-2148) = numP (x * y) (e + g) ∧ flagP (x * 2 ^ (e + 1074).toNat * (y * 2 ^ (g + 1074).toNat)) (-2148) = flagP (x * y) (e + g) := by
  have h : x * 2 ^ (e + 1074).toNat * (y * 2 ^ (g + 1074).toNat) = x * y * 2 ^ ((e + 1074).toNat + (g + 1074).toNat) := by
    rw [Nat.pow_add]; grind
  rw [h, numP_scale, flagP_scale, show (-2148 : Int) + (((e + 1074).toNat + (g + 1074).toNat : Nat) : Int) = e + g by omega]
  exact ⟨rfl, rfl⟩
/-- However numbers are laid, with enough bits their quotient is rounded alike. -/
theorem quo_lay (x y e g s t : Nat) (E : Int) (hx : 0 < x) (hy : 0 < y) (hq : 18014398509481984 ≤ x * 2 ^ s / (y * 2 ^ t)) (hE : E = (e : Int) - g - s + t) (he : e ≤ 2500) (hg : g ≤ 2500) (hs : s ≤ 400) :
    numM (x * 2 ^ s / (y * 2 ^ t)) E (decide (x * 2 ^ s % (y * 2 ^ t) ≠ 0)) = quoN (x * 2 ^ e) (y * 2 ^ g) ∧ flagM (x * 2 ^ s / (y * 2 ^ t)) E (decide (x * 2 ^ s % (y * 2 ^ t) ≠ 0)) = quoF (x * 2 ^ e) (y * 2 ^ g) := by
  have hjj := jj_is
  have hlen : 54 < (bl (x * 2 ^ s / (y * 2 ^ t))).length := (bl_length_lt _ 54).2 hq
  have hL : E < lastP (x * 2 ^ s / (y * 2 ^ t)) E := by unfold lastP; omega
  have hyt : 0 < y * 2 ^ t := Nat.mul_pos hy (Nat.two_pow_pos t)
  obtain ⟨j, hj⟩ : ∃ j : Nat, j + s + g = e + jj + t := ⟨e + jj + t - s - g, by omega⟩
  obtain ⟨k, hk⟩ : ∃ k : Nat, k + g = e + jj := ⟨e + jj - g, by omega⟩
  have m := more_div (x * 2 ^ s) (y * 2 ^ t) j E hyt (by omega) hL
  have e1 : x * 2 ^ s * 2 ^ j = x * 2 ^ k * 2 ^ t := by
    rw [Nat.mul_assoc, ← Nat.pow_add, Nat.mul_assoc, ← Nat.pow_add, show s + j = k + t by omega]
  have e2 : x * 2 ^ e * 2 ^ jj = x * 2 ^ k * 2 ^ g := by
    rw [Nat.mul_assoc, ← Nat.pow_add, Nat.mul_assoc, ← Nat.pow_add, show e + jj = k + g by omega]
  have c : ∀ u : Nat, (x * 2 ^ k * 2 ^ u % (y * 2 ^ u) ≠ 0) ↔ (x * 2 ^ k % y ≠ 0) := by
    intro u
    rw [Nat.mul_mod_mul_right, ne_eq, Nat.mul_eq_zero]
    have := Nat.two_pow_pos u
    omega
  rw [e1, Nat.mul_div_mul_right _ _ (Nat.two_pow_pos t), show decide (x * 2 ^ k * 2 ^ t % (y * 2 ^ t) ≠ 0) = decide (x * 2 ^ k % y ≠ 0) by rw [decide_eq_decide]; exact c t, show E - (j : Int) = -(jj : Int) by omega] at m
  unfold quoN quoF
  rw [e2, Nat.mul_div_mul_right _ _ (Nat.two_pow_pos g), show decide (x * 2 ^ k * 2 ^ g % (y * 2 ^ g) ≠ 0) = decide (x * 2 ^ k % y ≠ 0) by rw [decide_eq_decide]; exact c g]
  exact m
theorem pow_order (g s : Int) (hg : mag g < 9218868437227405312) (hs : mag s ≤ mag g) (hz : mag s ≠ 0) : wPow s ≤ wPow g ∧ (wPow g = wPow s ∨ 4503599627370496 ≤ (wMant g).toNat) := by
  unfold mag at *
  unfold wPow wMant wKind
  repeat' split
  all_goals omega
theorem mant_zero (b : Int) (hf : mag b < 9218868437227405312) : wMant b = 0 ↔ mag b = 0 := by
  unfold mag at *
  unfold wMant wKind
  repeat' split
  all_goals omega
end Go.Proofs.Ytokgfeeaoioegaa
