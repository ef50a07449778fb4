/-
  Texts put together: SolB.
-/
import Derived.Test.YtpakpgjbgehhjaaGreatProg
import Derived.Test.YtpakpgjbgehhjaaGreatGrW
import Derived.Test.YtpakpgjbgehhjaaGreatGrT
/-
  What solve's Trmv returns, with any Calc: step by step, and all flags. Conditions: a square matrix that is right; the list lies beside the Calc.
-/
namespace Go.Proofs.YtpakpgjbgehhjaaGreat
open Go.RowKit
set_option linter.unusedVariables false
set_option linter.unusedSimpArgs false

/-- The columns beside the diagonal: the first, and how many. -/
def tb (up : Bool) (i : Nat) : Nat := if up then i + 1 else 0
def tn (up : Bool) (C i : Nat) : Nat := if up then C - (i + 1) else i
end Go.Proofs.YtpakpgjbgehhjaaGreat
