/-
  What wide's Div returns.
-/
import Derived.Test.YteohkpiecidicaaDivC
import Derived.Test.YteohkpiecidicaaWideD
namespace Go.Proofs.Yteohkpiecidicaa
open Go.RowKit
set_option linter.unusedVariables false

end Go.Proofs.Yteohkpiecidicaa
