/-
  Sums with signs, rounded; what a pattern is not (plain mathematics, no program in sight).
-/
import Derived.Test.YtokgfeeaoioegaaSoftM
namespace Go.Proofs.Ytokgfeeaoioegaa
set_option linter.unusedVariables false

theorem rnd_same (g s : Int) (hs : sgn g = sgn s) (hp : 0 < V (mag g)) : rndS (sv g + sv s) = (sgnB (sgn g) + ((numP (V (mag g) + V (mag s)) (-1074) : Nat) : Int), ((flagP (V (mag g) + V (mag s)) (-1074) : Nat) : Int)) := by
  unfold rndS sv
  rw [← hs]
  cases sgn g
  · have h1 : ((if false = true then -((V (mag g) : Nat) : Int) else ((V (mag g) : Nat) : Int)) + (if false = true then -((V (mag s) : Nat) : Int) else ((V (mag s) : Nat) : Int))) = ((V (mag g) + V (mag s) : Nat) : Int) := by simp
    rw [h1, decide_eq_false (by omega), Int.natAbs_natCast]
  · have h1 : ((if true = true then -((V (mag g) : Nat) : Int) else ((V (mag g) : Nat) : Int)) + (if true = true then -((V (mag s) : Nat) : Int) else ((V (mag s) : Nat) : Int))) = -((V (mag g) + V (mag s) : Nat) : Int) := by simp; omega
    rw [h1, decide_eq_true (by omega), Int.natAbs_neg, Int.natAbs_natCast]
theorem rnd_diff (g s : Int) (hs : sgn g ≠ sgn s) (hle : V (mag s) ≤ V (mag g)) : rndS (sv g + sv s) = (sgnB (sgn g && decide (V (mag g) ≠ V (mag s))) + ((numP (V (mag g) - V (mag s)) (-1074) : Nat) : Int), ((flagP (V (mag g) - V (mag s)) (-1074) : Nat) : Int)) := by
  unfold rndS sv
  have hs2 : sgn s = !sgn g := by revert hs; cases sgn g <;> cases sgn s <;> simp
  rw [hs2]
  cases sgn g
  · have h1 : ((if false = true then -((V (mag g) : Nat) : Int) else ((V (mag g) : Nat) : Int)) + (if (!false) = true then -((V (mag s) : Nat) : Int) else ((V (mag s) : Nat) : Int))) = ((V (mag g) - V (mag s) : Nat) : Int) := by simp; omega
    rw [h1, decide_eq_false (by omega), Int.natAbs_natCast]
    rfl
  · have h1 : ((if true = true then -((V (mag g) : Nat) : Int) else ((V (mag g) : Nat) : Int)) + (if (!true) = true then -((V (mag s) : Nat) : Int) else ((V (mag s) : Nat) : Int))) = -((V (mag g) - V (mag s) : Nat) : Int) := by simp; omega
    rw [h1, Int.natAbs_neg, Int.natAbs_natCast, Bool.true_and, show decide (-((V (mag g) - V (mag s) : Nat) : Int) < 0) = decide (V (mag g) ≠ V (mag s)) by rw [decide_eq_decide]; omega]
theorem mag_fin (b : Int) (h : isNan b = false) (g : isInf b = false) : mag b < 9218868437227405312 := by
  unfold isNan at h
  unfold isInf at g
  rw [decide_eq_false_iff_not] at h g
  omega
theorem inf_not_z (b : Int) (h : isInf b = true) : isZ b = false := by
  unfold isInf at h
  unfold isZ
  rw [decide_eq_true_eq] at h
  rw [decide_eq_false_iff_not]
  omega
theorem zero_two (a : Int) (h0 : 0 ≤ a) (h1 : a < 18446744073709551616) (h : isZ a = true) : a = 0 ∨ a = 9223372036854775808 := by
  unfold isZ mag at h
  rw [decide_eq_true_eq] at h
  omega
theorem sv_comm (a b : Int) : rndS (sv a + sv b) = rndS (sv b + sv a) := by rw [Int.add_comm]
theorem rnd_same' (g s : Int) (hs : sgn g = sgn s) (hp : 0 < V (mag g) + V (mag s)) : rndS (sv g + sv s) = (sgnB (sgn g) + ((numP (V (mag g) + V (mag s)) (-1074) : Nat) : Int), ((flagP (V (mag g) + V (mag s)) (-1074) : Nat) : Int)) := by
  rcases Nat.eq_zero_or_pos (V (mag g)) with h | h
  · rw [sv_comm, rnd_same s g hs.symm (by omega), hs, Nat.add_comm]
  · exact rnd_same g s hs h
theorem add_len (x y n : Nat) (h1 : (bl x).length ≤ n) (h2 : (bl y).length ≤ n) : (bl (x + y)).length ≤ n + 1 := by
  rw [bl_length_le] at *
  rw [Nat.pow_succ]
  omega
theorem sub_len (x y n : Nat) (h1 : (bl x).length ≤ n) : (bl (x - y)).length ≤ n := Nat.le_trans (len_mono _ _ (Nat.sub_le _ _)) h1
end Go.Proofs.Ytokgfeeaoioegaa
