/-
  What wide's Div returns.
-/
import Derived.Test.YtokgfeeaoioegaaDivC
import Derived.Test.YtokgfeeaoioegaaWideD
namespace Go.Proofs.Ytokgfeeaoioegaa
open Go.RowKit
set_option linter.unusedVariables false

end Go.Proofs.Ytokgfeeaoioegaa
