/-
  Rounding what is told with a little more, quotients, sums with signs (plain mathematics, no program in sight).
-/
import Derived.Test.YtokgfeeaoioegaaRoundV
namespace Go.Proofs.Ytokgfeeaoioegaa
set_option linter.unusedVariables false

/-- The flags of a little more don't hang on how it is told. -/
theorem sticky_flag (x t k t' k' : Nat) (e : Int) (hx : 0 < x) (hd : e < lastP x e) (ht : 0 < t) (htk : t < 2 ^ k) (ht' : 0 < t') (htk' : t' < 2 ^ k') :
    flagP (x * 2 ^ k + t) (e - k) = flagP (x * 2 ^ k' + t') (e - k') := by
  obtain ⟨a1, a2⟩ := sticky_lost x t k e hx hd ht htk
  obtain ⟨b1, b2⟩ := sticky_lost x t' k' e hx hd ht' htk'
  have c1 : x * 2 ^ k + t ≠ 0 := by omega
  have c2 : x * 2 ^ k' + t' ≠ 0 := by omega
  unfold flagP
  rw [sticky_all x t k t' k' e hx hd ht htk ht' htk', a1, a2, b1, b2]
  simp only [ne_eq, c1, c2]
/-- Rounded with a little more, or without. -/
def numM (x : Nat) (e : Int) (more : Bool) : Nat := numP (x * 2 ^ 2 + more.toNat) (e - (2 : Nat))
def flagM (x : Nat) (e : Int) (more : Bool) : Nat := flagP (x * 2 ^ 2 + more.toNat) (e - (2 : Nat))
theorem numM_false (x : Nat) (e : Int) : numM x e false = numP x e := by
  unfold numM
  rw [Bool.toNat_false, Nat.add_zero, numP_scale, Int.sub_add_cancel]
theorem flagM_false (x : Nat) (e : Int) : flagM x e false = flagP x e := by
  unfold flagM
  rw [Bool.toNat_false, Nat.add_zero, flagP_scale, Int.sub_add_cancel]
/-- Some bits beneath, told as a little more. -/
theorem more_shift (N j : Nat) (e : Int) (hq : 0 < N / 2 ^ j) (hd : e < lastP (N / 2 ^ j) e) :
    numM (N / 2 ^ j) e (decide (N % 2 ^ j ≠ 0)) = numP N (e - j) ∧ flagM (N / 2 ^ j) e (decide (N % 2 ^ j ≠ 0)) = flagP N (e - j) := by
  have hN := Nat.div_add_mod N (2 ^ j)
  have hm := Nat.mod_lt N (Nat.two_pow_pos j)
  rw [Nat.mul_comm] at hN
  by_cases h : N % 2 ^ j = 0
  · rw [h, Nat.add_zero] at hN
    rw [show decide (N % 2 ^ j ≠ 0) = false by simp [h], numM_false, flagM_false]
    have a := numP_scale (N / 2 ^ j) (e - j) j
    have b := flagP_scale (N / 2 ^ j) (e - j) j
    rw [hN, Int.sub_add_cancel] at a b
    exact ⟨a.symm, b.symm⟩
  · rw [show decide (N % 2 ^ j ≠ 0) = true by simp [h]]
    unfold numM flagM
    rw [Bool.toNat_true]
    have a := sticky_all (N / 2 ^ j) 1 2 (N % 2 ^ j) j e hq hd (by omega) (by decide) (by omega) hm
    have b := sticky_flag (N / 2 ^ j) 1 2 (N % 2 ^ j) j e hq hd (by omega) (by decide) (by omega) hm
    rw [hN] at a b
    unfold numP
    rw [a, b]
    exact ⟨rfl, rfl⟩
/-- A quotient with more bits is rounded alike. -/
theorem more_div (N y j : Nat) (e : Int) (hy : 0 < y) (hq : 0 < N / y) (hd : e < lastP (N / y) e) :
    numM (N / y) e (decide (N % y ≠ 0)) = numM (N * 2 ^ j / y) (e - j) (decide (N * 2 ^ j % y ≠ 0)) ∧ flagM (N / y) e (decide (N % y ≠ 0)) = flagM (N * 2 ^ j / y) (e - j) (decide (N * 2 ^ j % y ≠ 0)) := by
  have hN := Nat.div_add_mod N y
  have hm := Nat.mod_lt N hy
  have e0 : N * 2 ^ j = N % y * 2 ^ j + y * (N / y * 2 ^ j) := by
    conv => lhs; rw [← hN]
    grind
  have e1 : N * 2 ^ j / y = N / y * 2 ^ j + N % y * 2 ^ j / y := by rw [e0, Nat.add_mul_div_left _ _ hy, Nat.add_comm]
  have e2 : N * 2 ^ j % y = N % y * 2 ^ j % y := by rw [e0, Nat.add_mul_mod_self_left]
  have ht : N % y * 2 ^ j / y < 2 ^ j := by
    rw [Nat.div_lt_iff_lt_mul hy, Nat.mul_comm (2 ^ j)]
    exact Nat.mul_lt_mul_of_pos_right hm (Nat.two_pow_pos j)
  rw [e1, e2]
  by_cases h : N % y = 0
  · rw [h, Nat.zero_mul, Nat.zero_div, Nat.zero_mod, Nat.add_zero]
    rw [show decide ((0 : Nat) ≠ 0) = false by simp, numM_false, flagM_false, numM_false, flagM_false, numP_scale, flagP_scale, Int.sub_add_cancel]
    exact ⟨rfl, rfl⟩
  · rw [show decide (N % y ≠ 0) = true by simp [h]]
    generalize hX : N / y = X at *
    have hR := Nat.div_add_mod (N % y * 2 ^ j) y
    have hpos : 0 < N % y * 2 ^ j := Nat.mul_pos (by omega) (Nat.two_pow_pos j)
    generalize N % y * 2 ^ j / y = t at *
    by_cases g : N % y * 2 ^ j % y = 0
    · rw [show decide (N % y * 2 ^ j % y ≠ 0) = false from decide_eq_false (fun k => k g), numM_false, flagM_false]
      have ht0 : 0 < t := by
        rw [g, Nat.add_zero] at hR
        rcases Nat.eq_zero_or_pos t with k | k
        · rw [k, Nat.mul_zero] at hR; omega
        · exact k
      unfold numM flagM
      rw [Bool.toNat_true]
      have a := sticky_all X 1 2 t j e hq hd (by omega) (by decide) ht0 ht
      have b := sticky_flag X 1 2 t j e hq hd (by omega) (by decide) ht0 ht
      unfold numP
      rw [a, b]
      exact ⟨rfl, rfl⟩
    · rw [show decide (N % y * 2 ^ j % y ≠ 0) = true from decide_eq_true g]
      unfold numM flagM
      rw [Bool.toNat_true]
      have hk : (X * 2 ^ j + t) * 2 ^ 2 + 1 = X * 2 ^ (j + 2) + (t * 4 + 1) := by rw [Nat.pow_add]; grind
      have hlt : t * 4 + 1 < 2 ^ (j + 2) := by rw [Nat.pow_add]; omega
      have a := sticky_all X 1 2 (t * 4 + 1) (j + 2) e hq hd (by omega) (by decide) (by omega) hlt
      have b := sticky_flag X 1 2 (t * 4 + 1) (j + 2) e hq hd (by omega) (by decide) (by omega) hlt
      rw [show e - ((j + 2 : Nat) : Int) = e - (j : Int) - ((2 : Nat) : Int) by push_cast; omega] at a b
      unfold numP
      rw [hk, a, b]
      exact ⟨rfl, rfl⟩
/-- What is less than one unit of a difference falls out of it so. -/
theorem sub_floor (X Y j : Nat) (h : Y ≤ X * 2 ^ j) : (X * 2 ^ j - Y) / 2 ^ j = X - Y / 2 ^ j - (decide (Y % 2 ^ j ≠ 0)).toNat ∧ ((X * 2 ^ j - Y) % 2 ^ j ≠ 0 ↔ Y % 2 ^ j ≠ 0) := by
  have hp := Nat.two_pow_pos j
  have hY := Nat.div_add_mod Y (2 ^ j)
  have hm := Nat.mod_lt Y hp
  by_cases g : Y % 2 ^ j = 0
  · have e : X * 2 ^ j - Y = (X - Y / 2 ^ j) * 2 ^ j := by rw [Nat.sub_mul, Nat.mul_comm (Y / 2 ^ j)]; omega
    rw [e, Nat.mul_div_cancel _ hp, Nat.mul_mod_left]
    simp [g]
  · have hXY : Y / 2 ^ j < X := by
      rcases Nat.lt_or_ge (Y / 2 ^ j) X with k | k
      · exact k
      · have : X * 2 ^ j ≤ 2 ^ j * (Y / 2 ^ j) := by rw [Nat.mul_comm X]; exact Nat.mul_le_mul_left _ k
        omega
    obtain ⟨Z, hZ⟩ : ∃ Z, X = Y / 2 ^ j + 1 + Z := ⟨X - Y / 2 ^ j - 1, by omega⟩
    have e : X * 2 ^ j - Y = (2 ^ j - Y % 2 ^ j) + 2 ^ j * Z := by
      have : X * 2 ^ j = 2 ^ j * (Y / 2 ^ j) + 2 ^ j + 2 ^ j * Z := by rw [hZ]; grind
      omega
    have hlt : 2 ^ j - Y % 2 ^ j < 2 ^ j := by omega
    rw [e, Nat.add_mul_div_left _ _ hp, Nat.add_mul_mod_self_left, Nat.div_eq_of_lt hlt, Nat.mod_eq_of_lt hlt]
    rw [show decide (Y % 2 ^ j ≠ 0) = true by simp [g], Bool.toNat_true]
    omega
/-- Sterbenz: a difference of two numbers of which one is at most twice the other is told just so. -/
theorem sterbenz (p q : Nat) (h : q ≤ p) (h2 : V p ≤ 2 * V q) : lostP (V p - V q) (-1074) = false := by
  obtain ⟨k, d, e1, v1, k1, k2⟩ := V_form p
  obtain ⟨j, c, f1, u1, j1, j2⟩ := V_form q
  have hcd : c ≤ d := by omega
  obtain ⟨n, rfl⟩ : ∃ n, d = c + n := ⟨d - c, by omega⟩
  have e : V p - V q = (k * 2 ^ n - j) * 2 ^ c := by
    rw [v1, u1, Nat.sub_mul, Nat.pow_add, Nat.mul_comm (2 ^ c), Nat.mul_assoc]
  have hle : (k * 2 ^ n - j) * 2 ^ c ≤ j * 2 ^ c := by rw [← e, ← u1]; omega
  have hle2 : k * 2 ^ n - j ≤ j := Nat.le_of_mul_le_mul_right hle (Nat.two_pow_pos c)
  rw [e]
  exact told _ _ (by omega)
/-- The order of what is rounded with its sign. -/
def keyR (s : Int) (e : Int) : Int := if s < 0 then -((numP s.natAbs e : Nat) : Int) else ((numP s.natAbs e : Nat) : Int)
theorem keyR_mono (s t e : Int) (h : s ≤ t) : keyR s e ≤ keyR t e := by
  unfold keyR
  by_cases hs : s < 0
  · rw [if_pos hs]
    by_cases ht : t < 0
    · rw [if_pos ht]
      have := numP_mono t.natAbs s.natAbs e (by omega)
      omega
    · rw [if_neg ht]
      omega
  · rw [if_neg hs, if_neg (by omega)]
    have := numP_mono s.natAbs t.natAbs e (by omega)
    omega
/-- The sign's bit. -/
def sgnB (neg : Bool) : Int := if neg then 9223372036854775808 else 0
theorem V_one : V 4607182418800017408 = 4503599627370496 * 2 ^ 1022 := V_split 4503599627370496 1022 (by decide) (by decide)
end Go.Proofs.Ytokgfeeaoioegaa
