/-
  What soft's Div returns: divS, at all patterns.
-/
import Derived.Test.YtokgfeeaoioegaaSoftE
namespace Go.Proofs.Ytokgfeeaoioegaa
open Go.RowKit
set_option linter.unusedVariables false

theorem shl_fit (m k : Nat) (h : m * 2 ^ k < 18014398509481984) : IntKind.u64.wrap ((m : Int) * 2 ^ k) = ((m * 2 ^ k : Nat) : Int) := by
  rw [IntKind.wrap_u64, show ((m : Int) * 2 ^ k) = ((m * 2 ^ k : Nat) : Int) by push_cast; rfl]
  omega
theorem grow (m n : Nat) (hm : 0 < m) (hn : (bl m).length ≤ n) : 2 ^ (n - 1) ≤ m * 2 ^ (n - (bl m).length) ∧ m * 2 ^ (n - (bl m).length) < 2 ^ n := by
  have h1 := (bl_length_le m (bl m).length).1 (Nat.le_refl _)
  have h0 : 0 < (bl m).length := (bl_length_lt m 0).2 (by rw [Nat.pow_zero]; exact hm)
  have h2 := (bl_length_lt m ((bl m).length - 1)).1 (by omega)
  refine ⟨?_, ?_⟩
  · have := Nat.mul_le_mul_right (2 ^ (n - (bl m).length)) h2
    rwa [← Nat.pow_add, show (bl m).length - 1 + (n - (bl m).length) = n - 1 by omega] at this
  · have := Nat.mul_lt_mul_of_pos_right h1 (Nat.two_pow_pos (n - (bl m).length))
    rwa [← Nat.pow_add, show (bl m).length + (n - (bl m).length) = n by omega] at this
end Go.Proofs.Ytokgfeeaoioegaa
