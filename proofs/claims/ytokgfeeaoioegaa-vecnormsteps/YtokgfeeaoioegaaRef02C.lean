/-
  What each function of package gimbalref02 returns.
-/
import Derived.Test.YtokgfeeaoioegaaHlp
import Derived.Test.YtokgfeeaoioegaaSeeM
namespace Go.Proofs.Ytokgfeeaoioegaa
open Go.RowKit
set_option linter.unusedVariables false

theorem val_take_succ (xs : List Int) (k : Nat) (h : k < xs.length) : val (xs.take (k + 1)) = val (xs.take k) + 2 ^ k * (xs[k]).toNat := by
  rw [List.take_succ_eq_append_getElem h, val_append, List.length_take]
  rw [show min k xs.length = k by omega, val_cons, val_nil, Nat.mul_zero, Nat.add_zero]
/-- Whether a 1 falls out below place n. -/
def lostB (m n : Nat) : Bool := decide (m % 2 ^ n ≠ 0)
theorem lost_step (xs : List Int) (k : Nat) (h : k < xs.length) (hx : Bin xs) : lostB (val xs) (k + 1) = (lostB (val xs) k || (xs[k]?.getD 0 == 1)) := by
  have e := val_take_succ xs k h
  rw [val_take xs hx, val_take xs hx] at e
  have hb := hx.get k h
  unfold lostB
  rw [List.getElem?_eq_getElem h, e]
  have hp := Nat.two_pow_pos k
  rw [Bool.eq_iff_iff]
  rcases hb with hb | hb <;> simp [hb] <;> omega
end Go.Proofs.Ytokgfeeaoioegaa
