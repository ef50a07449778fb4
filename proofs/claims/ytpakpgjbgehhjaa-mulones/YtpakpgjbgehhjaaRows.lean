/-
  No cell of these rows narrows 'for every input' (looked for: loops, veiled, ifaces, maps, wideKeys, modest, calm, conditions, laid).
  DERIVED. THE GIVEN ROWS OF THIS SEAT. 8 by the template 'for every input the law returns true; each argument reads behind the call as it read before'; 0 by the template 'total and deterministic' (their statements: YtpakpgjbgehhjaaTotals.lean).
  GIVEN WITH THE SEED: the statements are not yours to turn. If you find one false, say at which input.
  Laid BY PROGRAM, IN A SANDBOX (cutbox-rows.mjs): the forced cells as the released guide's own fill.sh prints them over the translation b4a25c5d52b259c1… (all of the seat's roots in one cut). By AI agents, Wed Nov 11 2026. No macro, syntax, notation, axiom, sorry.
-/
import Derived.Test.YtpakpgjbgehhjaaChecked
import GoSem.Claim
import GoSem.ClaimJoined
import GoSem.ClaimMapViews
import Derived.JoinedTies
import Derived.KernelRfl
namespace Go.Proofs.Ytpakpgjbgehhjaa
/- THE CELL 'sum', in the pinned program and in every row, IS THE sha256 OF THE DUMP (.gsa) THAT YtpakpgjbgehhjaaProg.lean LOADS. Nothing in Lean hashes anything: it is a label: what it is worth is what the hold of that sum in a sandbox is worth. -/
noncomputable def Try.pinned : Pinned := { name := "ytpakpgjbgehhjaa", sum := "b4a25c5d52b259c11dce069c8a48bdc45c90e8135b0f691e2b6ce6315662981c", checked := Try.checked }
namespace Rows
def none {H : Type} : Left H := { results := [], args := [] }

/-- 'gimballaw11.MulSteps': WHATEVER THE INPUT: true; the input reads as it did. -/
def mulStepsSpec : ChangeSpec := { name := "mulSteps", fn := fun _ => fun
  | [d1, d2, d3, d4, d5, d6] => { results := [.lit (.bool true)], args := [d1, d2, d3, d4, d5, d6] }
  | _ => none }
def mulStepsRow : OpenClaim := { program := "ytpakpgjbgehhjaa", sum := "b4a25c5d52b259c11dce069c8a48bdc45c90e8135b0f691e2b6ce6315662981c", func := "gimbal/gimballaw11.MulSteps", spec := "mulSteps", inPlace := ["math/bits.Add64", "math/bits.Sub64"], unfollowed := true, recurses := true, apart := false }
def MulStepsSaid : Prop := mulStepsRow.holds Try.pinned (OpenSpec.ofChange mulStepsSpec)

/-- ITS FALSE NEIGHBOUR: 'it returns false'. Refute it at one input. -/
def mulStepsWrong : ChangeSpec := { name := "mulSteps", fn := fun _ => fun
  | [d1, d2, d3, d4, d5, d6] => { results := [.lit (.bool false)], args := [d1, d2, d3, d4, d5, d6] }
  | _ => none }
def MulStepsWrongFalsely : Prop := mulStepsRow.holds Try.pinned (OpenSpec.ofChange mulStepsWrong)

/-- 'gimballaw11.MulNears': WHATEVER THE INPUT: true; the input reads as it did. -/
def mulNearsSpec : ChangeSpec := { name := "mulNears", fn := fun _ => fun
  | [d1, d2, d3, d4] => { results := [.lit (.bool true)], args := [d1, d2, d3, d4] }
  | _ => none }
def mulNearsRow : OpenClaim := { program := "ytpakpgjbgehhjaa", sum := "b4a25c5d52b259c11dce069c8a48bdc45c90e8135b0f691e2b6ce6315662981c", func := "gimbal/gimballaw11.MulNears", spec := "mulNears", inPlace := ["math/bits.Add64", "math/bits.Sub64"], unfollowed := true, recurses := true, apart := false }
def MulNearsSaid : Prop := mulNearsRow.holds Try.pinned (OpenSpec.ofChange mulNearsSpec)

/-- ITS FALSE NEIGHBOUR: 'it returns false'. Refute it at one input. -/
def mulNearsWrong : ChangeSpec := { name := "mulNears", fn := fun _ => fun
  | [d1, d2, d3, d4] => { results := [.lit (.bool false)], args := [d1, d2, d3, d4] }
  | _ => none }
def MulNearsWrongFalsely : Prop := mulNearsRow.holds Try.pinned (OpenSpec.ofChange mulNearsWrong)

/-- 'gimballaw11.MulOnes': WHATEVER THE INPUT: true; the input reads as it did. -/
def mulOnesSpec : ChangeSpec := { name := "mulOnes", fn := fun _ => fun
  | [d1, d2, d3, d4] => { results := [.lit (.bool true)], args := [d1, d2, d3, d4] }
  | _ => none }
def mulOnesRow : OpenClaim := { program := "ytpakpgjbgehhjaa", sum := "b4a25c5d52b259c11dce069c8a48bdc45c90e8135b0f691e2b6ce6315662981c", func := "gimbal/gimballaw11.MulOnes", spec := "mulOnes", inPlace := ["math/bits.Add64", "math/bits.Sub64"], unfollowed := true, recurses := true, apart := false }
def MulOnesSaid : Prop := mulOnesRow.holds Try.pinned (OpenSpec.ofChange mulOnesSpec)

/-- ITS FALSE NEIGHBOUR: 'it returns false'. Refute it at one input. -/
def mulOnesWrong : ChangeSpec := { name := "mulOnes", fn := fun _ => fun
  | [d1, d2, d3, d4] => { results := [.lit (.bool false)], args := [d1, d2, d3, d4] }
  | _ => none }
def MulOnesWrongFalsely : Prop := mulOnesRow.holds Try.pinned (OpenSpec.ofChange mulOnesWrong)

/-- 'gimballaw11.MulWhole': WHATEVER THE INPUT: true; the input reads as it did. -/
def mulWholeSpec : ChangeSpec := { name := "mulWhole", fn := fun _ => fun
  | [d1, d2, d3, d4, d5] => { results := [.lit (.bool true)], args := [d1, d2, d3, d4, d5] }
  | _ => none }
def mulWholeRow : OpenClaim := { program := "ytpakpgjbgehhjaa", sum := "b4a25c5d52b259c11dce069c8a48bdc45c90e8135b0f691e2b6ce6315662981c", func := "gimbal/gimballaw11.MulWhole", spec := "mulWhole", inPlace := ["math/bits.Add64", "math/bits.Sub64"], unfollowed := true, recurses := true, apart := false }
def MulWholeSaid : Prop := mulWholeRow.holds Try.pinned (OpenSpec.ofChange mulWholeSpec)

/-- ITS FALSE NEIGHBOUR: 'it returns false'. Refute it at one input. -/
def mulWholeWrong : ChangeSpec := { name := "mulWhole", fn := fun _ => fun
  | [d1, d2, d3, d4, d5] => { results := [.lit (.bool false)], args := [d1, d2, d3, d4, d5] }
  | _ => none }
def MulWholeWrongFalsely : Prop := mulWholeRow.holds Try.pinned (OpenSpec.ofChange mulWholeWrong)

/-- 'gimballaw12.SolveTimes': WHATEVER THE INPUT: true; the input reads as it did. -/
def solveTimesSpec : ChangeSpec := { name := "solveTimes", fn := fun _ => fun
  | [d1, d2, d3, d4] => { results := [.lit (.bool true)], args := [d1, d2, d3, d4] }
  | _ => none }
def solveTimesRow : OpenClaim := { program := "ytpakpgjbgehhjaa", sum := "b4a25c5d52b259c11dce069c8a48bdc45c90e8135b0f691e2b6ce6315662981c", func := "gimbal/gimballaw12.SolveTimes", spec := "solveTimes", inPlace := ["math/bits.Add64", "math/bits.Sub64"], unfollowed := true, recurses := true, named := ["math/bits.divideError", "math/bits.overflowError"], apart := false }
def SolveTimesSaid : Prop := solveTimesRow.holds Try.pinned (OpenSpec.ofChange solveTimesSpec)

/-- ITS FALSE NEIGHBOUR: 'it returns false'. Refute it at one input. -/
def solveTimesWrong : ChangeSpec := { name := "solveTimes", fn := fun _ => fun
  | [d1, d2, d3, d4] => { results := [.lit (.bool false)], args := [d1, d2, d3, d4] }
  | _ => none }
def SolveTimesWrongFalsely : Prop := solveTimesRow.holds Try.pinned (OpenSpec.ofChange solveTimesWrong)

/-- 'gimballaw12.SolveSteps': WHATEVER THE INPUT: true; the input reads as it did. -/
def solveStepsSpec : ChangeSpec := { name := "solveSteps", fn := fun _ => fun
  | [d1, d2, d3, d4] => { results := [.lit (.bool true)], args := [d1, d2, d3, d4] }
  | _ => none }
def solveStepsRow : OpenClaim := { program := "ytpakpgjbgehhjaa", sum := "b4a25c5d52b259c11dce069c8a48bdc45c90e8135b0f691e2b6ce6315662981c", func := "gimbal/gimballaw12.SolveSteps", spec := "solveSteps", inPlace := ["math/bits.Add64", "math/bits.Sub64"], unfollowed := true, recurses := true, named := ["math/bits.divideError", "math/bits.overflowError"], apart := false }
def SolveStepsSaid : Prop := solveStepsRow.holds Try.pinned (OpenSpec.ofChange solveStepsSpec)

/-- ITS FALSE NEIGHBOUR: 'it returns false'. Refute it at one input. -/
def solveStepsWrong : ChangeSpec := { name := "solveSteps", fn := fun _ => fun
  | [d1, d2, d3, d4] => { results := [.lit (.bool false)], args := [d1, d2, d3, d4] }
  | _ => none }
def SolveStepsWrongFalsely : Prop := solveStepsRow.holds Try.pinned (OpenSpec.ofChange solveStepsWrong)

/-- 'gimballaw12.SolveBack': WHATEVER THE INPUT: true; the input reads as it did. -/
def solveBackSpec : ChangeSpec := { name := "solveBack", fn := fun _ => fun
  | [d1, d2, d3, d4] => { results := [.lit (.bool true)], args := [d1, d2, d3, d4] }
  | _ => none }
def solveBackRow : OpenClaim := { program := "ytpakpgjbgehhjaa", sum := "b4a25c5d52b259c11dce069c8a48bdc45c90e8135b0f691e2b6ce6315662981c", func := "gimbal/gimballaw12.SolveBack", spec := "solveBack", inPlace := ["math/bits.Add64", "math/bits.Sub64"], unfollowed := true, recurses := true, named := ["math/bits.divideError", "math/bits.overflowError"], apart := false }
def SolveBackSaid : Prop := solveBackRow.holds Try.pinned (OpenSpec.ofChange solveBackSpec)

/-- ITS FALSE NEIGHBOUR: 'it returns false'. Refute it at one input. -/
def solveBackWrong : ChangeSpec := { name := "solveBack", fn := fun _ => fun
  | [d1, d2, d3, d4] => { results := [.lit (.bool false)], args := [d1, d2, d3, d4] }
  | _ => none }
def SolveBackWrongFalsely : Prop := solveBackRow.holds Try.pinned (OpenSpec.ofChange solveBackWrong)

/-- 'gimballaw12.SolveOnes': WHATEVER THE INPUT: true; the input reads as it did. -/
def solveOnesSpec : ChangeSpec := { name := "solveOnes", fn := fun _ => fun
  | [d1, d2, d3] => { results := [.lit (.bool true)], args := [d1, d2, d3] }
  | _ => none }
def solveOnesRow : OpenClaim := { program := "ytpakpgjbgehhjaa", sum := "b4a25c5d52b259c11dce069c8a48bdc45c90e8135b0f691e2b6ce6315662981c", func := "gimbal/gimballaw12.SolveOnes", spec := "solveOnes", inPlace := ["math/bits.Add64", "math/bits.Sub64"], unfollowed := true, recurses := true, named := ["math/bits.divideError", "math/bits.overflowError"], apart := false }
def SolveOnesSaid : Prop := solveOnesRow.holds Try.pinned (OpenSpec.ofChange solveOnesSpec)

/-- ITS FALSE NEIGHBOUR: 'it returns false'. Refute it at one input. -/
def solveOnesWrong : ChangeSpec := { name := "solveOnes", fn := fun _ => fun
  | [d1, d2, d3] => { results := [.lit (.bool false)], args := [d1, d2, d3] }
  | _ => none }
def SolveOnesWrongFalsely : Prop := solveOnesRow.holds Try.pinned (OpenSpec.ofChange solveOnesWrong)

/- THE SECOND FORM. 'bulk': how many values and letters a reading holds, each counted each time it is reached (what is shared counts as often as it is met; a slice's spare places count too). A statement '..UptoSaid' is the law's where the arguments, and the package variables that the reading takes, are together of bulk at most 1048576: NARROWER than '..Said'. Prove '..Said' where nothing that the law and all that it calls make is longer than what came in: it says more and counts as full. Else prove '..UptoSaid'. A law counts once. -/
mutual
def uptoBulk {H : Type} : DataW H → Nat
  | .lit (.string bytes) => bytes.length + 1
  | .lit _ => 1
  | .nil => 1
  | .ptr d => uptoBulk d + 1
  | .slice elems spare => uptoBulkAll elems + uptoBulkAll spare + 1
  | .agg parts => uptoBulkAll parts + 1
  | .iface _ d => uptoBulk d + 1
  | .map entries => uptoBulkEntries entries + 1
  | .held _ => 1
def uptoBulkAll {H : Type} : List (DataW H) → Nat
  | [] => 0
  | d :: r => uptoBulk d + uptoBulkAll r
def uptoBulkEntries {H : Type} : List (Lit × DataW H) → Nat
  | [] => 0
  | x :: r => uptoBulkEntry x + uptoBulkEntries r
def uptoBulkEntry {H : Type} : Lit × DataW H → Nat
  | (.string bytes, d) => bytes.length + uptoBulk d + 1
  | (_, d) => uptoBulk d + 1
 end
def uptoSmall : (H : Type) → List (DataW H) → Bool := fun _ ds => decide (uptoBulkAll ds ≤ 1048576)
def OpenSpec.upto (s : _root_.Go.ChangeSpec) : _root_.Go.OpenSpec := { _root_.Go.OpenSpec.ofChange s with cond := some uptoSmall }

/-- 'gimballaw11.MulSteps', WHERE WHAT IT READS IS OF BULK AT MOST 1048576: true; the input reads as it did. -/
def mulStepsUptoRow : OpenClaim := { program := "ytpakpgjbgehhjaa", sum := "b4a25c5d52b259c11dce069c8a48bdc45c90e8135b0f691e2b6ce6315662981c", func := "gimbal/gimballaw11.MulSteps", spec := "mulSteps", inPlace := ["math/bits.Add64", "math/bits.Sub64"], unfollowed := true, recurses := true, apart := false, narrowed := true }
def MulStepsUptoSaid : Prop := mulStepsUptoRow.holds Try.pinned (OpenSpec.upto mulStepsSpec)

/-- 'gimballaw11.MulNears', WHERE WHAT IT READS IS OF BULK AT MOST 1048576: true; the input reads as it did. -/
def mulNearsUptoRow : OpenClaim := { program := "ytpakpgjbgehhjaa", sum := "b4a25c5d52b259c11dce069c8a48bdc45c90e8135b0f691e2b6ce6315662981c", func := "gimbal/gimballaw11.MulNears", spec := "mulNears", inPlace := ["math/bits.Add64", "math/bits.Sub64"], unfollowed := true, recurses := true, apart := false, narrowed := true }
def MulNearsUptoSaid : Prop := mulNearsUptoRow.holds Try.pinned (OpenSpec.upto mulNearsSpec)

/-- 'gimballaw11.MulOnes', WHERE WHAT IT READS IS OF BULK AT MOST 1048576: true; the input reads as it did. -/
def mulOnesUptoRow : OpenClaim := { program := "ytpakpgjbgehhjaa", sum := "b4a25c5d52b259c11dce069c8a48bdc45c90e8135b0f691e2b6ce6315662981c", func := "gimbal/gimballaw11.MulOnes", spec := "mulOnes", inPlace := ["math/bits.Add64", "math/bits.Sub64"], unfollowed := true, recurses := true, apart := false, narrowed := true }
def MulOnesUptoSaid : Prop := mulOnesUptoRow.holds Try.pinned (OpenSpec.upto mulOnesSpec)

/-- 'gimballaw11.MulWhole', WHERE WHAT IT READS IS OF BULK AT MOST 1048576: true; the input reads as it did. -/
def mulWholeUptoRow : OpenClaim := { program := "ytpakpgjbgehhjaa", sum := "b4a25c5d52b259c11dce069c8a48bdc45c90e8135b0f691e2b6ce6315662981c", func := "gimbal/gimballaw11.MulWhole", spec := "mulWhole", inPlace := ["math/bits.Add64", "math/bits.Sub64"], unfollowed := true, recurses := true, apart := false, narrowed := true }
def MulWholeUptoSaid : Prop := mulWholeUptoRow.holds Try.pinned (OpenSpec.upto mulWholeSpec)

/-- 'gimballaw12.SolveTimes', WHERE WHAT IT READS IS OF BULK AT MOST 1048576: true; the input reads as it did. -/
def solveTimesUptoRow : OpenClaim := { program := "ytpakpgjbgehhjaa", sum := "b4a25c5d52b259c11dce069c8a48bdc45c90e8135b0f691e2b6ce6315662981c", func := "gimbal/gimballaw12.SolveTimes", spec := "solveTimes", inPlace := ["math/bits.Add64", "math/bits.Sub64"], unfollowed := true, recurses := true, named := ["math/bits.divideError", "math/bits.overflowError"], apart := false, narrowed := true }
def SolveTimesUptoSaid : Prop := solveTimesUptoRow.holds Try.pinned (OpenSpec.upto solveTimesSpec)

/-- 'gimballaw12.SolveSteps', WHERE WHAT IT READS IS OF BULK AT MOST 1048576: true; the input reads as it did. -/
def solveStepsUptoRow : OpenClaim := { program := "ytpakpgjbgehhjaa", sum := "b4a25c5d52b259c11dce069c8a48bdc45c90e8135b0f691e2b6ce6315662981c", func := "gimbal/gimballaw12.SolveSteps", spec := "solveSteps", inPlace := ["math/bits.Add64", "math/bits.Sub64"], unfollowed := true, recurses := true, named := ["math/bits.divideError", "math/bits.overflowError"], apart := false, narrowed := true }
def SolveStepsUptoSaid : Prop := solveStepsUptoRow.holds Try.pinned (OpenSpec.upto solveStepsSpec)

/-- 'gimballaw12.SolveBack', WHERE WHAT IT READS IS OF BULK AT MOST 1048576: true; the input reads as it did. -/
def solveBackUptoRow : OpenClaim := { program := "ytpakpgjbgehhjaa", sum := "b4a25c5d52b259c11dce069c8a48bdc45c90e8135b0f691e2b6ce6315662981c", func := "gimbal/gimballaw12.SolveBack", spec := "solveBack", inPlace := ["math/bits.Add64", "math/bits.Sub64"], unfollowed := true, recurses := true, named := ["math/bits.divideError", "math/bits.overflowError"], apart := false, narrowed := true }
def SolveBackUptoSaid : Prop := solveBackUptoRow.holds Try.pinned (OpenSpec.upto solveBackSpec)

/-- 'gimballaw12.SolveOnes', WHERE WHAT IT READS IS OF BULK AT MOST 1048576: true; the input reads as it did. -/
def solveOnesUptoRow : OpenClaim := { program := "ytpakpgjbgehhjaa", sum := "b4a25c5d52b259c11dce069c8a48bdc45c90e8135b0f691e2b6ce6315662981c", func := "gimbal/gimballaw12.SolveOnes", spec := "solveOnes", inPlace := ["math/bits.Add64", "math/bits.Sub64"], unfollowed := true, recurses := true, named := ["math/bits.divideError", "math/bits.overflowError"], apart := false, narrowed := true }
def SolveOnesUptoSaid : Prop := solveOnesUptoRow.holds Try.pinned (OpenSpec.upto solveOnesSpec)

end Rows
end Go.Proofs.Ytpakpgjbgehhjaa
