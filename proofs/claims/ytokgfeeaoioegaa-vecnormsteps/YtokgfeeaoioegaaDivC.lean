/-
  What math/bits' Div64 returns, where the upper word is less than the divisor: the quotient and what is left of the two words' number.
-/
import Derived.Test.YtokgfeeaoioegaaDivM
import Derived.Test.YtokgfeeaoioegaaRef02E
import Derived.Laws.MathBits
namespace Go.Proofs.Ytokgfeeaoioegaa
open Go.RowKit
set_option linter.unusedVariables false

theorem tup2i {a b c d : Int} (h : a = c) (g : b = d) : Value.tuple #[.int .u64 a, .int .u64 b] = Value.tuple #[.int .u64 c, .int .u64 d] := by rw [h, g]
end Go.Proofs.Ytokgfeeaoioegaa
