/-
  Texts put together: PivX.
-/
import Derived.Test.YtpakpgjbgehhjaaGreatProg
import Derived.Test.YtpakpgjbgehhjaaGreatGrAP
import Derived.Test.YtpakpgjbgehhjaaGreatGrAK
/-
  What SolvePivots compares: the greatest of some numbers, as its law finds it; and, in the end, how near a row is. No conditions.
-/
namespace Go.Proofs.YtpakpgjbgehhjaaGreat
open Go.RowKit
set_option linter.unusedVariables false
set_option linter.unusedSimpArgs false

/-- The greatest of the first n. -/
def mxN (f : Nat → Nat) : Nat → Nat
  | 0 => 0
  | n + 1 => max (mxN f n) (f n)
theorem mxN_le (f : Nat → Nat) : ∀ n k, k < n → f k ≤ mxN f n
  | 0, k, h => absurd h (Nat.not_lt_zero k)
  | n + 1, k, h => by
    show f k ≤ max (mxN f n) (f n)
    by_cases e : k = n
    · subst e; omega
    · have := mxN_le f n k (by omega); omega
theorem mx_up (f : Nat → Nat) (n : Nat) (h : mxN f n < f n) : mxN f (n + 1) = f n := by show max (mxN f n) (f n) = f n; omega
theorem mx_stay (f : Nat → Nat) (n : Nat) (h : f n ≤ mxN f n) : mxN f (n + 1) = mxN f n := by show max (mxN f n) (f n) = mxN f n; omega
theorem xv_absI (x : Int) (h : mag x < 9218868437227405312) : ((xv x).natAbs : Int) = ((sv x).natAbs : Int) * 16384 := by
  rw [xv_fin x h]
  omega
theorem cmp_pos (X Y : Int) : 0 < cmpZ X Y ↔ Y < X := by
  unfold cmpZ
  by_cases h1 : X < Y
  · rw [if_pos h1]; omega
  · rw [if_neg h1]
    by_cases h2 : X = Y
    · rw [if_pos h2]; omega
    · rw [if_neg h2]; omega
theorem piv_cmp (A b : Int) (Q S : Nat) (hb : mag b < 9218868437227405312) (h : (A - sv b * ((2 ^ uu : Nat) : Int)).natAbs * 9007199254740992 ≤ Q * S) :
    (((A * 268435456 - xv b * pw (34 - 17)).natAbs : Int)) * pw (35 - 34) ≤ (Q : Int) * 33554432 * ((S : Int) * 16384) := by
  have e : A * 268435456 - xv b * pw (34 - 17) = (A - sv b * ((2 ^ uu : Nat) : Int)) * 268435456 := by
    rw [xv_fin b hb, show 34 - 17 = 17 from rfl, pw17]
    grind
  rw [e, Int.natAbs_mul, show Int.natAbs 268435456 = 268435456 from rfl, show 35 - 34 = 1 from rfl, pw1]
  generalize (A - sv b * ((2 ^ uu : Nat) : Int)).natAbs = D at h ⊢
  have e2 : (Q : Int) * 33554432 * ((S : Int) * 16384) = ((Q * S : Nat) : Int) * 549755813888 := by
    rw [Int.natCast_mul]
    grind
  rw [e2]
  generalize Q * S = T at h ⊢
  omega
theorem piv_bound0 (M : Nat) : (M : Int) * 16384 * 1000 * 2048 = ((1000 * M + 4 * 0 * 9007199254740992 : Nat) : Int) * 33554432 := by omega
theorem piv_bound1 (M : Nat) (l : Int) (h : l < 9218868437227405312) (hl : 0 < l) : (M : Int) * 16384 * 1000 * 2048 + xv l * 4 * pw (18 - 17) = ((1000 * M + 4 * V (mag l) * 9007199254740992 : Nat) : Int) * 33554432 := by
  have e : sv l = ((V (mag l) : Nat) : Int) := by
    unfold sv
    rw [if_neg]
    unfold sgn
    simp
    omega
  have hm : mag l < 9218868437227405312 := by unfold mag; omega
  rw [xv_fin l hm, e, show 18 - 17 = 1 from rfl, pw1]
  generalize V (mag l) = v
  omega
end Go.Proofs.YtpakpgjbgehhjaaGreat
