/-
  A slice of structs of two integers that came in: what its cells hold.
-/
import Derived.Test.YtbflkcpcbnkpbaaHlp
import Derived.Deep.SlicePairs
namespace Go.Proofs.Ytbflkcpcbnkpbaa
open Go.RowKit

/-- The slice v holds, at each place below len, the two numbers K i and B i. -/
def IsPairs (w : World) (k0 k1 : IntKind) (v : Value) (len : Nat) (K B : Nat → Int) : Prop :=
  ∃ (a : Option Addr) (c : Nat), v = .slice a len c ∧ (0 < len → ∃ b o, a = some ⟨b, o, none⟩ ∧ b < w.heap.size ∧ len ≤ c ∧ c ≤ maxLen ∧ ∀ i, i < len →
    w.cell? ⟨b, o + i * 2, none⟩ = some (.int k0 (K i)) ∧ w.cell? ⟨b, o + i * 2 + 1, none⟩ = some (.int k1 (B i)) ∧ (Lit.int k0 (K i)).wf = true ∧ (Lit.int k1 (B i)).wf = true)
end Go.Proofs.Ytbflkcpcbnkpbaa
