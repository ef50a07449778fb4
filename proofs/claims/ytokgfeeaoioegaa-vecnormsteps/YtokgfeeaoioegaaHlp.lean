/-
  Small equations between endings and values. No conditions.
-/
import Derived.Test.YtokgfeeaoioegaaProg
import Derived.WalkKit
import Derived.ProofKit
namespace Go.Proofs.Ytokgfeeaoioegaa
open Go.ChangeShapes Go.WideShapes Go.ChangeAt Go.RowKit

theorem ret_eq {u v : Value} (h : u = v) : Ending.returned u = Ending.returned v := by rw [h]
theorem int_eq {k : IntKind} {a b : Int} (h : a = b) : Value.int k a = Value.int k b := by rw [h]
theorem bool_eq {a b : Bool} (h : a = b) : Value.bool a = Value.bool b := by rw [h]
theorem tup2 {a b c d : Value} (h : a = c) (g : b = d) : Value.tuple #[a, b] = Value.tuple #[c, d] := by rw [h, g]
theorem tup3 {a b c x y z : Value} (h : a = x) (g : b = y) (f : c = z) : Value.tuple #[a, b, c] = Value.tuple #[x, y, z] := by rw [h, g, f]
end Go.Proofs.Ytokgfeeaoioegaa
