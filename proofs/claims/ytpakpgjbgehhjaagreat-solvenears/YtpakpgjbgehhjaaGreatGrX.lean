/-
  Texts put together: SolB.
-/
import Derived.Test.YtpakpgjbgehhjaaGreatProg
import Derived.Test.YtpakpgjbgehhjaaGreatGrW
import Derived.Test.YtpakpgjbgehhjaaGreatGrT
/-
  What solve's Trmv returns, with any Calc: step by step, and all flags. Conditions: a square matrix that is right; the list lies beside the Calc.
-/
namespace Go.Proofs.YtpakpgjbgehhjaaGreat
open Go.RowKit
set_option linter.unusedVariables false
set_option linter.unusedSimpArgs false

/-- The columns beside the diagonal: the first, and how many. -/
def tb (up : Bool) (i : Nat) : Nat := if up then i + 1 else 0
def tn (up : Bool) (C i : Nat) : Nat := if up then C - (i + 1) else i
def tmf (unit : Bool) (Z : Nat → Int) (S : Nat) (X : Nat → Int) (i : Nat) : Int := if unit then X i else (mulS (Z (i * S + i)) (X i)).1
def tmV (up unit : Bool) (Z : Nat → Int) (S C : Nat) (X : Nat → Int) (i : Nat) : Int := gatV addS (tmf unit Z S X i) (fun k => Z (i * S + k)) X (tb up i) (tn up C i)
def tmF (up unit : Bool) (F : Int) (Z : Nat → Int) (S C : Nat) (X : Nat → Int) : Nat → Int
  | 0 => F
  | i + 1 => gatF addS (if unit then tmF up unit F Z S C X i else bits .or .u8 (tmF up unit F Z S C X i) (mulS (Z (i * S + i)) (X i)).2) (tmf unit Z S X i) (fun k => Z (i * S + k)) X (tb up i) (tn up C i)
end Go.Proofs.YtpakpgjbgehhjaaGreat
