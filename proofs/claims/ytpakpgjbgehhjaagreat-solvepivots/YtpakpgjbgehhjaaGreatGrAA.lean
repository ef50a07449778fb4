/-
  Texts put together: MoreI WholeM.
-/
import Derived.Test.YtpakpgjbgehhjaaGreatProg
import Derived.Test.YtpakpgjbgehhjaaGreatGrA
import Derived.Test.YtpakpgjbgehhjaaGreatGrC
import Derived.Test.YtpakpgjbgehhjaaGreatGrB
/-
  The mathematics of MoreInts: a whole number of at most 2^63, rounded, is a whole number, exact or not.
-/
namespace Go.Proofs.YtpakpgjbgehhjaaGreat
set_option linter.unusedVariables false

end Go.Proofs.YtpakpgjbgehhjaaGreat

/-
  Whole numbers beneath 2^53 as patterns: their products, sums and sums of products are exact, without flags. No conditions.
-/
namespace Go.Proofs.YtpakpgjbgehhjaaGreat
open Go.RowKit
set_option linter.unusedVariables false

/-- The pattern x stands for the whole number k. -/
def IsW (x k : Int) : Prop := 0 ≤ x ∧ x < 18446744073709551616 ∧ mag x < 9218868437227405312 ∧ sv x = k * ((2 ^ uu : Nat) : Int)
theorem IsW.zero {x : Int} (h : IsW x 0) : mag x = 0 := by
  have := h.2.2.2
  rw [Int.zero_mul] at this
  have h2 := sv_abs x
  rw [this] at h2
  rcases Nat.eq_zero_or_pos (mag x) with g | g
  · exact g
  · have := V_pos (mag x) g
    simp at h2
    omega
theorem IsW.nonzero {x k : Int} (h : IsW x k) (hk : k ≠ 0) : mag x ≠ 0 := by
  intro e
  have h2 := sv_abs x
  rw [e, V_zero, h.2.2.2, Int.natAbs_mul, Int.natAbs_natCast] at h2
  have := Nat.two_pow_pos uu
  rcases Nat.mul_eq_zero.1 h2 with g | g <;> omega
/-- But for zero there is one pattern alone. -/
theorem IsW.only {x k : Int} (h : IsW x k) (hk : k ≠ 0) : x = (rndS (k * ((2 ^ uu : Nat) : Int))).1 := by
  have := rnd_self x h.1 h.2.1 h.2.2.1 (h.nonzero hk)
  rw [h.2.2.2] at this
  rw [this]
theorem IsW.same {x y k : Int} (h : IsW x k) (g : IsW y k) : x = y ∨ (mag x = 0 ∧ mag y = 0) := by
  by_cases hk : k = 0
  · subst hk
    exact .inr ⟨h.zero, g.zero⟩
  · exact .inl ((h.only hk).trans (g.only hk).symm)
end Go.Proofs.YtpakpgjbgehhjaaGreat
