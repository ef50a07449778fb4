/-
  Texts put together: MatV.
-/
import Derived.Test.YtpakpgjbgehhjaaGreatProg
import Derived.Test.YtpakpgjbgehhjaaGreatGrQ
import Derived.Test.YtpakpgjbgehhjaaGreatGrP
/-
  The greatest number of a matrix, exactly, and the power of two beneath it. Conditions: all are finite.
-/
namespace Go.Proofs.YtpakpgjbgehhjaaGreat
open Go.RowKit
set_option linter.unusedVariables false

theorem mFinNo (R C S : Nat) (a : Option Addr) (len cap : Nat) (Z : Nat → Int) (w : World) (h : Rgt (R : Int) (C : Int) (S : Int) len) (hx : URow w a len cap Z) (hf : ¬ AllF Z R C S) :
    Calls Tryz.prog 9 #[.agg #[.int .i64 (R : Int), .int .i64 (C : Int), .int .i64 (S : Int), .slice a len cap]] w fun e w' => e = .returned (.bool false) ∧ Below w.heap.size w w' := by
  refine (mFin R C S a len cap Z w h hx).mono ?_
  rintro e w' ⟨⟨_, hN⟩ | ⟨rfl, _⟩, hb⟩
  · exact absurd hN hf
  · exact ⟨rfl, hb⟩
end Go.Proofs.YtpakpgjbgehhjaaGreat
