/-
  No cell of these rows narrows 'for every input' (looked for: loops, veiled, ifaces, maps, wideKeys, modest, calm, conditions, laid).
  DERIVED. THE GIVEN ROWS OF THIS SEAT. 4 by the template 'for every input the law returns true; each argument reads behind the call as it read before'; 0 by the template 'total and deterministic' (their statements: YtgpgmnmifhkmbaaTotals.lean).
  GIVEN WITH THE SEED: the statements are not yours to turn. If you find one false, say at which input.
  Laid BY PROGRAM, IN A SANDBOX (cutbox-rows.mjs): the forced cells as the released guide's own fill.sh prints them over the translation 0c6359cbe763a561… (all of the seat's roots in one cut). By AI agents, Wed Nov 11 2026. No macro, syntax, notation, axiom, sorry.
-/
import Derived.Test.YtgpgmnmifhkmbaaChecked
import GoSem.Claim
import GoSem.ClaimJoined
import GoSem.ClaimMapViews
import Derived.JoinedTies
import Derived.KernelRfl
namespace Go.Proofs.Ytgpgmnmifhkmbaa
/- THE CELL 'sum', in the pinned program and in every row, IS THE sha256 OF THE DUMP (.gsa) THAT YtgpgmnmifhkmbaaProg.lean LOADS. Nothing in Lean hashes anything: it is a label: what it is worth is what the hold of that sum in a sandbox is worth. -/
noncomputable def Try.pinned : Pinned := { name := "ytgpgmnmifhkmbaa", sum := "0c6359cbe763a561e4017555a4361ccbffbdc206f3f7a8a3a34b4378a733e34d", checked := Try.checked }
namespace Rows
def none {H : Type} : Left H := { results := [], args := [] }

/-- 'gimballaw07.DyadSums': WHATEVER THE INPUT: true; the input reads as it did. -/
def dyadSumsSpec : ChangeSpec := { name := "dyadSums", fn := fun _ => fun
  | [d1, d2] => { results := [.lit (.bool true)], args := [d1, d2] }
  | _ => none }
def dyadSumsRow : OpenClaim := { program := "ytgpgmnmifhkmbaa", sum := "0c6359cbe763a561e4017555a4361ccbffbdc206f3f7a8a3a34b4378a733e34d", func := "gimbal/gimballaw07.DyadSums", spec := "dyadSums", inPlace := ["math/bits.Add64", "math/bits.Sub64"], apart := false }
def DyadSumsSaid : Prop := dyadSumsRow.holds Try.pinned (OpenSpec.ofChange dyadSumsSpec)

/-- ITS FALSE NEIGHBOUR: 'it returns false'. Refute it at one input. -/
def dyadSumsWrong : ChangeSpec := { name := "dyadSums", fn := fun _ => fun
  | [d1, d2] => { results := [.lit (.bool false)], args := [d1, d2] }
  | _ => none }
def DyadSumsWrongFalsely : Prop := dyadSumsRow.holds Try.pinned (OpenSpec.ofChange dyadSumsWrong)

/-- 'gimballaw07.DyadNears': WHATEVER THE INPUT: true; the input reads as it did. -/
def dyadNearsSpec : ChangeSpec := { name := "dyadNears", fn := fun _ => fun
  | [d1, d2] => { results := [.lit (.bool true)], args := [d1, d2] }
  | _ => none }
def dyadNearsRow : OpenClaim := { program := "ytgpgmnmifhkmbaa", sum := "0c6359cbe763a561e4017555a4361ccbffbdc206f3f7a8a3a34b4378a733e34d", func := "gimbal/gimballaw07.DyadNears", spec := "dyadNears", inPlace := ["math/bits.Add64", "math/bits.Sub64"], apart := false }
def DyadNearsSaid : Prop := dyadNearsRow.holds Try.pinned (OpenSpec.ofChange dyadNearsSpec)

/-- ITS FALSE NEIGHBOUR: 'it returns false'. Refute it at one input. -/
def dyadNearsWrong : ChangeSpec := { name := "dyadNears", fn := fun _ => fun
  | [d1, d2] => { results := [.lit (.bool false)], args := [d1, d2] }
  | _ => none }
def DyadNearsWrongFalsely : Prop := dyadNearsRow.holds Try.pinned (OpenSpec.ofChange dyadNearsWrong)

/-- 'gimballaw07.DyadLaws': WHATEVER THE INPUT: true; the input reads as it did. -/
def dyadLawsSpec : ChangeSpec := { name := "dyadLaws", fn := fun _ => fun
  | [d1, d2, d3] => { results := [.lit (.bool true)], args := [d1, d2, d3] }
  | _ => none }
def dyadLawsRow : OpenClaim := { program := "ytgpgmnmifhkmbaa", sum := "0c6359cbe763a561e4017555a4361ccbffbdc206f3f7a8a3a34b4378a733e34d", func := "gimbal/gimballaw07.DyadLaws", spec := "dyadLaws", inPlace := ["math/bits.Add64", "math/bits.Sub64"], apart := false }
def DyadLawsSaid : Prop := dyadLawsRow.holds Try.pinned (OpenSpec.ofChange dyadLawsSpec)

/-- ITS FALSE NEIGHBOUR: 'it returns false'. Refute it at one input. -/
def dyadLawsWrong : ChangeSpec := { name := "dyadLaws", fn := fun _ => fun
  | [d1, d2, d3] => { results := [.lit (.bool false)], args := [d1, d2, d3] }
  | _ => none }
def DyadLawsWrongFalsely : Prop := dyadLawsRow.holds Try.pinned (OpenSpec.ofChange dyadLawsWrong)

/-- 'gimballaw07.DyadInts': WHATEVER THE INPUT: true; the input reads as it did. -/
def dyadIntsSpec : ChangeSpec := { name := "dyadInts", fn := fun _ => fun
  | [d1, d2] => { results := [.lit (.bool true)], args := [d1, d2] }
  | _ => none }
def dyadIntsRow : OpenClaim := { program := "ytgpgmnmifhkmbaa", sum := "0c6359cbe763a561e4017555a4361ccbffbdc206f3f7a8a3a34b4378a733e34d", func := "gimbal/gimballaw07.DyadInts", spec := "dyadInts", inPlace := ["math/bits.Add64", "math/bits.Sub64"], apart := false }
def DyadIntsSaid : Prop := dyadIntsRow.holds Try.pinned (OpenSpec.ofChange dyadIntsSpec)

/-- ITS FALSE NEIGHBOUR: 'it returns false'. Refute it at one input. -/
def dyadIntsWrong : ChangeSpec := { name := "dyadInts", fn := fun _ => fun
  | [d1, d2] => { results := [.lit (.bool false)], args := [d1, d2] }
  | _ => none }
def DyadIntsWrongFalsely : Prop := dyadIntsRow.holds Try.pinned (OpenSpec.ofChange dyadIntsWrong)

/- THE SECOND FORM. 'bulk': how many values and letters a reading holds, each counted each time it is reached (what is shared counts as often as it is met; a slice's spare places count too). A statement '..UptoSaid' is the law's where the arguments, and the package variables that the reading takes, are together of bulk at most 1048576: NARROWER than '..Said'. Prove '..Said' where nothing that the law and all that it calls make is longer than what came in: it says more and counts as full. Else prove '..UptoSaid'. A law counts once. -/
mutual
def uptoBulk {H : Type} : DataW H → Nat
  | .lit (.string bytes) => bytes.length + 1
  | .lit _ => 1
  | .nil => 1
  | .ptr d => uptoBulk d + 1
  | .slice elems spare => uptoBulkAll elems + uptoBulkAll spare + 1
  | .agg parts => uptoBulkAll parts + 1
  | .iface _ d => uptoBulk d + 1
  | .map entries => uptoBulkEntries entries + 1
  | .held _ => 1
def uptoBulkAll {H : Type} : List (DataW H) → Nat
  | [] => 0
  | d :: r => uptoBulk d + uptoBulkAll r
def uptoBulkEntries {H : Type} : List (Lit × DataW H) → Nat
  | [] => 0
  | x :: r => uptoBulkEntry x + uptoBulkEntries r
def uptoBulkEntry {H : Type} : Lit × DataW H → Nat
  | (.string bytes, d) => bytes.length + uptoBulk d + 1
  | (_, d) => uptoBulk d + 1
 end
def uptoSmall : (H : Type) → List (DataW H) → Bool := fun _ ds => decide (uptoBulkAll ds ≤ 1048576)
def OpenSpec.upto (s : _root_.Go.ChangeSpec) : _root_.Go.OpenSpec := { _root_.Go.OpenSpec.ofChange s with cond := some uptoSmall }

/-- 'gimballaw07.DyadSums', WHERE WHAT IT READS IS OF BULK AT MOST 1048576: true; the input reads as it did. -/
def dyadSumsUptoRow : OpenClaim := { program := "ytgpgmnmifhkmbaa", sum := "0c6359cbe763a561e4017555a4361ccbffbdc206f3f7a8a3a34b4378a733e34d", func := "gimbal/gimballaw07.DyadSums", spec := "dyadSums", inPlace := ["math/bits.Add64", "math/bits.Sub64"], apart := false, narrowed := true }
def DyadSumsUptoSaid : Prop := dyadSumsUptoRow.holds Try.pinned (OpenSpec.upto dyadSumsSpec)

/-- 'gimballaw07.DyadNears', WHERE WHAT IT READS IS OF BULK AT MOST 1048576: true; the input reads as it did. -/
def dyadNearsUptoRow : OpenClaim := { program := "ytgpgmnmifhkmbaa", sum := "0c6359cbe763a561e4017555a4361ccbffbdc206f3f7a8a3a34b4378a733e34d", func := "gimbal/gimballaw07.DyadNears", spec := "dyadNears", inPlace := ["math/bits.Add64", "math/bits.Sub64"], apart := false, narrowed := true }
def DyadNearsUptoSaid : Prop := dyadNearsUptoRow.holds Try.pinned (OpenSpec.upto dyadNearsSpec)

/-- 'gimballaw07.DyadLaws', WHERE WHAT IT READS IS OF BULK AT MOST 1048576: true; the input reads as it did. -/
def dyadLawsUptoRow : OpenClaim := { program := "ytgpgmnmifhkmbaa", sum := "0c6359cbe763a561e4017555a4361ccbffbdc206f3f7a8a3a34b4378a733e34d", func := "gimbal/gimballaw07.DyadLaws", spec := "dyadLaws", inPlace := ["math/bits.Add64", "math/bits.Sub64"], apart := false, narrowed := true }
def DyadLawsUptoSaid : Prop := dyadLawsUptoRow.holds Try.pinned (OpenSpec.upto dyadLawsSpec)

/-- 'gimballaw07.DyadInts', WHERE WHAT IT READS IS OF BULK AT MOST 1048576: true; the input reads as it did. -/
def dyadIntsUptoRow : OpenClaim := { program := "ytgpgmnmifhkmbaa", sum := "0c6359cbe763a561e4017555a4361ccbffbdc206f3f7a8a3a34b4378a733e34d", func := "gimbal/gimballaw07.DyadInts", spec := "dyadInts", inPlace := ["math/bits.Add64", "math/bits.Sub64"], apart := false, narrowed := true }
def DyadIntsUptoSaid : Prop := dyadIntsUptoRow.holds Try.pinned (OpenSpec.upto dyadIntsSpec)

end Rows
end Go.Proofs.Ytgpgmnmifhkmbaa
