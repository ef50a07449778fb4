/-
  Texts put together: FlagM VecF VecG VecH.
-/
import Derived.Test.YtpakpgjbgehhjaaGreatProg
import Derived.Test.YtpakpgjbgehhjaaGreatGrI
import Derived.Deep.RegionHeld3
/-
  Flags put together: the order does not matter. Numbers below 256.
-/
namespace Go.Proofs.YtpakpgjbgehhjaaGreat
set_option linter.unusedVariables false

end Go.Proofs.YtpakpgjbgehhjaaGreat

/-
  What vec's Axpy returns, with any Calc: the sums, one behind the other, and all flags. Conditions: the lists lie beside the Calc; at most a million numbers.
-/
namespace Go.Proofs.YtpakpgjbgehhjaaGreat
open Go.RowKit
set_option linter.unusedVariables false

theorem IsCalc.drew {w : World} {p : Value} {c : Option Nat} {F : Int} (h : IsCalc w p c F) : IsCalc w.drew p c F := h.later ((Below.refl _ _).drew)
end Go.Proofs.YtpakpgjbgehhjaaGreat

/-
  What vec's Rot returns, with any Calc: sums and differences, and all flags. Conditions: the lists lie beside the Calc; at most a million numbers.
-/
namespace Go.Proofs.YtpakpgjbgehhjaaGreat
open Go.RowKit
set_option linter.unusedVariables false

theorem bes_put (w : World) (g i : Nat) (u : Value) : Bes (some g) w (w.setCell ⟨g, i, none⟩ u) := (Bes.refl _ w).set (p := ⟨g, i, none⟩) (.inr rfl) u
end Go.Proofs.YtpakpgjbgehhjaaGreat

/-
  The flags of sums and products in another order are the same. Conditions: numbers of 64 bits.
-/
namespace Go.Proofs.YtpakpgjbgehhjaaGreat
open Go.RowKit
set_option linter.unusedVariables false

def af (a b : Int) : Nat := (addS a b).2.toNat
end Go.Proofs.YtpakpgjbgehhjaaGreat
