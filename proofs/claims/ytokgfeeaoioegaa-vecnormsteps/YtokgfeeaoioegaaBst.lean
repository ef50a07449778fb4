/-
  Chains of worlds. No conditions.
-/
import Derived.Test.YtokgfeeaoioegaaHlp
namespace Go.Proofs.Ytokgfeeaoioegaa
open Go.RowKit
theorem bstep {w w1 w2 : World} (h : Below w.heap.size w w1) (g : Below w1.heap.size w1 w2) : Below w.heap.size w w2 := h.trans (g.mono h.size)
theorem bmore {w w1 : World} (h : Below w.heap.size w w1) (o : Obj) : Below w.heap.size w (w1.alloc o) := h.alloc h.size o
end Go.Proofs.Ytokgfeeaoioegaa
