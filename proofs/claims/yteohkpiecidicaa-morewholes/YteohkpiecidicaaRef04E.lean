/-
  What the reference's Mul of layer 4 returns: mulS, at all patterns.
-/
import Derived.Test.YteohkpiecidicaaRef04C
import Derived.Test.YteohkpiecidicaaRndM
import Derived.RegionTactic
import Derived.Deep.RegionWith
import Derived.Deep.RegionHeld3
import Derived.ChangeAlike
import Derived.Deep.DeepCutAuto
namespace Go.Proofs.Yteohkpiecidicaa
open Go.RowKit
set_option linter.unusedVariables false

theorem cut_facts (b : Int) : 0 ≤ b % 4503599627370496 ∧ b % 4503599627370496 < 4503599627370496 ∧ 0 ≤ b / 4503599627370496 % 2048 ∧ b / 4503599627370496 % 2048 < 2048 ∧ (b / 4503599627370496 % 2048 = 0 → rE b = 0 ∧ (rX b : Int) = b % 4503599627370496) ∧ (b / 4503599627370496 % 2048 ≠ 0 → (rE b : Int) = b / 4503599627370496 % 2048 - 1 ∧ (rX b : Int) = b % 4503599627370496 + 4503599627370496) := by
  refine ⟨by omega, by omega, by omega, by omega, fun h => ?_, fun h => ?_⟩
  · unfold rE rX; rw [if_pos h]; omega
  · unfold rE rX; rw [if_neg h]; omega
theorem raw_mul (x y e g : Nat) : numP (x * 2 ^ e * (y * 2 ^ g)) (-2148) = numP (x * y) ((e : Int) + (g : Int) - 2148) ∧ flagP (x * 2 ^ e * (y * 2 ^ g)) (-2148) = flagP (x * y) ((e : Int) + (g : Int) - 2148) := by
  have h : x * 2 ^ e * (y * 2 ^ g) = x * y * 2 ^ (e + g) := by rw [Nat.pow_add]; grind
  rw [h, numP_scale, flagP_scale, show (-2148 : Int) + ((e + g : Nat) : Int) = (e : Int) + (g : Int) - 2148 by omega]
  exact ⟨rfl, rfl⟩
end Go.Proofs.Yteohkpiecidicaa
