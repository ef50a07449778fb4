/-
  What gimbalref02's Add, Sub, Cmp, Mul and Div return on lists of bits: the list of the sum, of the difference, which is greater, the list of the product, those of the quotient and of what is left. Lists of at most some thousand bits.
-/
import Derived.Test.YtokgfeeaoioegaaRef02C
namespace Go.Proofs.Ytokgfeeaoioegaa
open Go.RowKit
set_option linter.unusedVariables false

theorem val_snoc (zs : List Int) (t : Int) : val (zs ++ [t]) = val zs + 2 ^ zs.length * t.toNat := by
  rw [val_append, val_cons, val_nil, Nat.mul_zero, Nat.add_zero]
/-- The k-th bit, or nought behind the end. -/
def bitAt (xs : List Int) (k : Nat) : Int := xs[k]?.getD 0
theorem bitAt_lt (xs : List Int) (k : Nat) (h : k < xs.length) : bitAt xs k = xs[k] := by unfold bitAt; rw [List.getElem?_eq_getElem h]; rfl
theorem bitAt_ge (xs : List Int) (k : Nat) (h : xs.length ≤ k) : bitAt xs k = 0 := by unfold bitAt; rw [List.getElem?_eq_none h]; rfl
theorem bitAt_bin (xs : List Int) (k : Nat) (hx : Bin xs) : bitAt xs k = 0 ∨ bitAt xs k = 1 := by
  by_cases h : k < xs.length
  · rw [bitAt_lt xs k h]; exact hx.get k h
  · rw [bitAt_ge xs k (by omega)]; exact Or.inl rfl
theorem val_drop_bit (xs : List Int) (k : Nat) : val (xs.drop k) = (bitAt xs k).toNat + 2 * val (xs.drop (k + 1)) := by
  by_cases h : k < xs.length
  · rw [val_drop_cons xs k h, bitAt_lt xs k h]
  · rw [bitAt_ge xs k (by omega), List.drop_eq_nil_of_le (by omega), List.drop_eq_nil_of_le (by omega)]; rfl
theorem add_step (zs : List Int) (k cy a b A B T : Nat) (hz : zs.length = k) (h : val zs + 2 ^ k * (cy + (a + 2 * A) + (b + 2 * B)) = T) (t : Int) (ht : t.toNat = (cy + a + b) % 2) :
    val (zs ++ [t]) + 2 ^ (k + 1) * ((cy + a + b) / 2 + A + B) = T := by
  rw [val_snoc, hz, ht, ← h, Nat.pow_succ]
  have e : cy + (a + 2 * A) + (b + 2 * B) = (cy + a + b) % 2 + 2 * ((cy + a + b) / 2 + A + B) := by omega
  rw [e]
  generalize (cy + a + b) % 2 = r
  generalize (cy + a + b) / 2 + A + B = M
  rw [Nat.mul_add, Nat.mul_assoc]
  omega
theorem Bin.snoc {zs : List Int} (h : Bin zs) (t : Int) (ht : t = 0 ∨ t = 1) : Bin (zs ++ [t]) := h.append (Bin.mk ht Bin.nil)

end Go.Proofs.Ytokgfeeaoioegaa
