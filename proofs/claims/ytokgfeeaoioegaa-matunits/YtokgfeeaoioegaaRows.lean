/-
  No cell of these rows narrows 'for every input' (looked for: loops, veiled, ifaces, maps, wideKeys, modest, calm, conditions, laid).
  DERIVED. THE GIVEN ROWS OF THIS SEAT. 12 by the template 'for every input the law returns true; each argument reads behind the call as it read before'; 0 by the template 'total and deterministic' (their statements: YtokgfeeaoioegaaTotals.lean).
  GIVEN WITH THE SEED: the statements are not yours to turn. If you find one false, say at which input.
  Laid BY PROGRAM, IN A SANDBOX (cutbox-rows.mjs): the forced cells as the released guide's own fill.sh prints them over the translation 2994674524cb3253… (all of the seat's roots in one cut). By AI agents, Wed Nov 11 2026. No macro, syntax, notation, axiom, sorry.
-/
import Derived.Test.YtokgfeeaoioegaaChecked
import GoSem.Claim
import GoSem.ClaimJoined
import GoSem.ClaimMapViews
import Derived.JoinedTies
import Derived.KernelRfl
namespace Go.Proofs.Ytokgfeeaoioegaa
/- THE CELL 'sum', in the pinned program and in every row, IS THE sha256 OF THE DUMP (.gsa) THAT YtokgfeeaoioegaaProg.lean LOADS. Nothing in Lean hashes anything: it is a label: what it is worth is what the hold of that sum in a sandbox is worth. -/
noncomputable def Try.pinned : Pinned := { name := "ytokgfeeaoioegaa", sum := "2994674524cb32537662f4d4ea7fe5c3b3c13007818fb1497e9307480aea4505", checked := Try.checked }
namespace Rows
def none {H : Type} : Left H := { results := [], args := [] }

/-- 'gimballaw09.MatChecks': WHATEVER THE INPUT: true; the input reads as it did. -/
def matChecksSpec : ChangeSpec := { name := "matChecks", fn := fun _ => fun
  | [d1, d2, d3, d4, d5, d6] => { results := [.lit (.bool true)], args := [d1, d2, d3, d4, d5, d6] }
  | _ => none }
def matChecksRow : OpenClaim := { program := "ytokgfeeaoioegaa", sum := "2994674524cb32537662f4d4ea7fe5c3b3c13007818fb1497e9307480aea4505", func := "gimbal/gimballaw09.MatChecks", spec := "matChecks", inPlace := ["math/bits.Add64", "math/bits.Sub64"], unfollowed := true, recurses := true, apart := false }
def MatChecksSaid : Prop := matChecksRow.holds Try.pinned (OpenSpec.ofChange matChecksSpec)

/-- ITS FALSE NEIGHBOUR: 'it returns false'. Refute it at one input. -/
def matChecksWrong : ChangeSpec := { name := "matChecks", fn := fun _ => fun
  | [d1, d2, d3, d4, d5, d6] => { results := [.lit (.bool false)], args := [d1, d2, d3, d4, d5, d6] }
  | _ => none }
def MatChecksWrongFalsely : Prop := matChecksRow.holds Try.pinned (OpenSpec.ofChange matChecksWrong)

/-- 'gimballaw09.MatCopies': WHATEVER THE INPUT: true; the input reads as it did. -/
def matCopiesSpec : ChangeSpec := { name := "matCopies", fn := fun _ => fun
  | [d1, d2, d3, d4, d5, d6] => { results := [.lit (.bool true)], args := [d1, d2, d3, d4, d5, d6] }
  | _ => none }
def matCopiesRow : OpenClaim := { program := "ytokgfeeaoioegaa", sum := "2994674524cb32537662f4d4ea7fe5c3b3c13007818fb1497e9307480aea4505", func := "gimbal/gimballaw09.MatCopies", spec := "matCopies", inPlace := ["math/bits.Add64", "math/bits.Sub64"], unfollowed := true, recurses := true, apart := false }
def MatCopiesSaid : Prop := matCopiesRow.holds Try.pinned (OpenSpec.ofChange matCopiesSpec)

/-- ITS FALSE NEIGHBOUR: 'it returns false'. Refute it at one input. -/
def matCopiesWrong : ChangeSpec := { name := "matCopies", fn := fun _ => fun
  | [d1, d2, d3, d4, d5, d6] => { results := [.lit (.bool false)], args := [d1, d2, d3, d4, d5, d6] }
  | _ => none }
def MatCopiesWrongFalsely : Prop := matCopiesRow.holds Try.pinned (OpenSpec.ofChange matCopiesWrong)

/-- 'gimballaw09.MatOnes': WHATEVER THE INPUT: true; the input reads as it did. -/
def matOnesSpec : ChangeSpec := { name := "matOnes", fn := fun _ => fun
  | [d1, d2] => { results := [.lit (.bool true)], args := [d1, d2] }
  | _ => none }
def matOnesRow : OpenClaim := { program := "ytokgfeeaoioegaa", sum := "2994674524cb32537662f4d4ea7fe5c3b3c13007818fb1497e9307480aea4505", func := "gimbal/gimballaw09.MatOnes", spec := "matOnes", inPlace := ["math/bits.Add64", "math/bits.Sub64"], unfollowed := true, recurses := true, apart := false }
def MatOnesSaid : Prop := matOnesRow.holds Try.pinned (OpenSpec.ofChange matOnesSpec)

/-- ITS FALSE NEIGHBOUR: 'it returns false'. Refute it at one input. -/
def matOnesWrong : ChangeSpec := { name := "matOnes", fn := fun _ => fun
  | [d1, d2] => { results := [.lit (.bool false)], args := [d1, d2] }
  | _ => none }
def MatOnesWrongFalsely : Prop := matOnesRow.holds Try.pinned (OpenSpec.ofChange matOnesWrong)

/-- 'gimballaw09.MatUnits': WHATEVER THE INPUT: true; the input reads as it did. -/
def matUnitsSpec : ChangeSpec := { name := "matUnits", fn := fun _ => fun
  | [d1, d2, d3, d4] => { results := [.lit (.bool true)], args := [d1, d2, d3, d4] }
  | _ => none }
def matUnitsRow : OpenClaim := { program := "ytokgfeeaoioegaa", sum := "2994674524cb32537662f4d4ea7fe5c3b3c13007818fb1497e9307480aea4505", func := "gimbal/gimballaw09.MatUnits", spec := "matUnits", inPlace := ["math/bits.Add64", "math/bits.Sub64"], unfollowed := true, recurses := true, apart := false }
def MatUnitsSaid : Prop := matUnitsRow.holds Try.pinned (OpenSpec.ofChange matUnitsSpec)

/-- ITS FALSE NEIGHBOUR: 'it returns false'. Refute it at one input. -/
def matUnitsWrong : ChangeSpec := { name := "matUnits", fn := fun _ => fun
  | [d1, d2, d3, d4] => { results := [.lit (.bool false)], args := [d1, d2, d3, d4] }
  | _ => none }
def MatUnitsWrongFalsely : Prop := matUnitsRow.holds Try.pinned (OpenSpec.ofChange matUnitsWrong)

/-- 'gimballaw09.MatScales': WHATEVER THE INPUT: true; the input reads as it did. -/
def matScalesSpec : ChangeSpec := { name := "matScales", fn := fun _ => fun
  | [d1, d2, d3, d4, d5] => { results := [.lit (.bool true)], args := [d1, d2, d3, d4, d5] }
  | _ => none }
def matScalesRow : OpenClaim := { program := "ytokgfeeaoioegaa", sum := "2994674524cb32537662f4d4ea7fe5c3b3c13007818fb1497e9307480aea4505", func := "gimbal/gimballaw09.MatScales", spec := "matScales", inPlace := ["math/bits.Add64", "math/bits.Sub64"], unfollowed := true, recurses := true, apart := false }
def MatScalesSaid : Prop := matScalesRow.holds Try.pinned (OpenSpec.ofChange matScalesSpec)

/-- ITS FALSE NEIGHBOUR: 'it returns false'. Refute it at one input. -/
def matScalesWrong : ChangeSpec := { name := "matScales", fn := fun _ => fun
  | [d1, d2, d3, d4, d5] => { results := [.lit (.bool false)], args := [d1, d2, d3, d4, d5] }
  | _ => none }
def MatScalesWrongFalsely : Prop := matScalesRow.holds Try.pinned (OpenSpec.ofChange matScalesWrong)

/-- 'gimballaw09.MatParts': WHATEVER THE INPUT: true; the input reads as it did. -/
def matPartsSpec : ChangeSpec := { name := "matParts", fn := fun _ => fun
  | [d1, d2, d3, d4, d5, d6, d7, d8] => { results := [.lit (.bool true)], args := [d1, d2, d3, d4, d5, d6, d7, d8] }
  | _ => none }
def matPartsRow : OpenClaim := { program := "ytokgfeeaoioegaa", sum := "2994674524cb32537662f4d4ea7fe5c3b3c13007818fb1497e9307480aea4505", func := "gimbal/gimballaw09.MatParts", spec := "matParts", inPlace := ["math/bits.Add64", "math/bits.Sub64"], unfollowed := true, recurses := true, apart := false }
def MatPartsSaid : Prop := matPartsRow.holds Try.pinned (OpenSpec.ofChange matPartsSpec)

/-- ITS FALSE NEIGHBOUR: 'it returns false'. Refute it at one input. -/
def matPartsWrong : ChangeSpec := { name := "matParts", fn := fun _ => fun
  | [d1, d2, d3, d4, d5, d6, d7, d8] => { results := [.lit (.bool false)], args := [d1, d2, d3, d4, d5, d6, d7, d8] }
  | _ => none }
def MatPartsWrongFalsely : Prop := matPartsRow.holds Try.pinned (OpenSpec.ofChange matPartsWrong)

/-- 'gimballaw10.VecSteps': WHATEVER THE INPUT: true; the input reads as it did. -/
def vecStepsSpec : ChangeSpec := { name := "vecSteps", fn := fun _ => fun
  | [d1, d2, d3, d4] => { results := [.lit (.bool true)], args := [d1, d2, d3, d4] }
  | _ => none }
def vecStepsRow : OpenClaim := { program := "ytokgfeeaoioegaa", sum := "2994674524cb32537662f4d4ea7fe5c3b3c13007818fb1497e9307480aea4505", func := "gimbal/gimballaw10.VecSteps", spec := "vecSteps", inPlace := ["math/bits.Add64", "math/bits.Sub64"], unfollowed := true, recurses := true, apart := false }
def VecStepsSaid : Prop := vecStepsRow.holds Try.pinned (OpenSpec.ofChange vecStepsSpec)

/-- ITS FALSE NEIGHBOUR: 'it returns false'. Refute it at one input. -/
def vecStepsWrong : ChangeSpec := { name := "vecSteps", fn := fun _ => fun
  | [d1, d2, d3, d4] => { results := [.lit (.bool false)], args := [d1, d2, d3, d4] }
  | _ => none }
def VecStepsWrongFalsely : Prop := vecStepsRow.holds Try.pinned (OpenSpec.ofChange vecStepsWrong)

/-- 'gimballaw10.VecDots': WHATEVER THE INPUT: true; the input reads as it did. -/
def vecDotsSpec : ChangeSpec := { name := "vecDots", fn := fun _ => fun
  | [d1, d2] => { results := [.lit (.bool true)], args := [d1, d2] }
  | _ => none }
def vecDotsRow : OpenClaim := { program := "ytokgfeeaoioegaa", sum := "2994674524cb32537662f4d4ea7fe5c3b3c13007818fb1497e9307480aea4505", func := "gimbal/gimballaw10.VecDots", spec := "vecDots", inPlace := ["math/bits.Add64", "math/bits.Sub64"], unfollowed := true, recurses := true, apart := false }
def VecDotsSaid : Prop := vecDotsRow.holds Try.pinned (OpenSpec.ofChange vecDotsSpec)

/-- ITS FALSE NEIGHBOUR: 'it returns false'. Refute it at one input. -/
def vecDotsWrong : ChangeSpec := { name := "vecDots", fn := fun _ => fun
  | [d1, d2] => { results := [.lit (.bool false)], args := [d1, d2] }
  | _ => none }
def VecDotsWrongFalsely : Prop := vecDotsRow.holds Try.pinned (OpenSpec.ofChange vecDotsWrong)

/-- 'gimballaw10.VecNorms': WHATEVER THE INPUT: true; the input reads as it did. -/
def vecNormsSpec : ChangeSpec := { name := "vecNorms", fn := fun _ => fun
  | [d] => { results := [.lit (.bool true)], args := [d] }
  | _ => none }
def vecNormsRow : OpenClaim := { program := "ytokgfeeaoioegaa", sum := "2994674524cb32537662f4d4ea7fe5c3b3c13007818fb1497e9307480aea4505", func := "gimbal/gimballaw10.VecNorms", spec := "vecNorms", inPlace := ["math/bits.Add64", "math/bits.Sub64"], unfollowed := true, recurses := true, apart := false }
def VecNormsSaid : Prop := vecNormsRow.holds Try.pinned (OpenSpec.ofChange vecNormsSpec)

/-- ITS FALSE NEIGHBOUR: 'it returns false'. Refute it at one input. -/
def vecNormsWrong : ChangeSpec := { name := "vecNorms", fn := fun _ => fun
  | [d] => { results := [.lit (.bool false)], args := [d] }
  | _ => none }
def VecNormsWrongFalsely : Prop := vecNormsRow.holds Try.pinned (OpenSpec.ofChange vecNormsWrong)

/-- 'gimballaw10.VecNormSteps': WHATEVER THE INPUT: true; the input reads as it did. -/
def vecNormStepsSpec : ChangeSpec := { name := "vecNormSteps", fn := fun _ => fun
  | [d] => { results := [.lit (.bool true)], args := [d] }
  | _ => none }
def vecNormStepsRow : OpenClaim := { program := "ytokgfeeaoioegaa", sum := "2994674524cb32537662f4d4ea7fe5c3b3c13007818fb1497e9307480aea4505", func := "gimbal/gimballaw10.VecNormSteps", spec := "vecNormSteps", inPlace := ["math/bits.Add64", "math/bits.Sub64"], unfollowed := true, recurses := true, apart := false }
def VecNormStepsSaid : Prop := vecNormStepsRow.holds Try.pinned (OpenSpec.ofChange vecNormStepsSpec)

/-- ITS FALSE NEIGHBOUR: 'it returns false'. Refute it at one input. -/
def vecNormStepsWrong : ChangeSpec := { name := "vecNormSteps", fn := fun _ => fun
  | [d] => { results := [.lit (.bool false)], args := [d] }
  | _ => none }
def VecNormStepsWrongFalsely : Prop := vecNormStepsRow.holds Try.pinned (OpenSpec.ofChange vecNormStepsWrong)

/-- 'gimballaw10.VecPowers': WHATEVER THE INPUT: true; the input reads as it did. -/
def vecPowersSpec : ChangeSpec := { name := "vecPowers", fn := fun _ => fun
  | [d1, d2] => { results := [.lit (.bool true)], args := [d1, d2] }
  | _ => none }
def vecPowersRow : OpenClaim := { program := "ytokgfeeaoioegaa", sum := "2994674524cb32537662f4d4ea7fe5c3b3c13007818fb1497e9307480aea4505", func := "gimbal/gimballaw10.VecPowers", spec := "vecPowers", inPlace := ["math/bits.Add64", "math/bits.Sub64"], unfollowed := true, recurses := true, apart := false }
def VecPowersSaid : Prop := vecPowersRow.holds Try.pinned (OpenSpec.ofChange vecPowersSpec)

/-- ITS FALSE NEIGHBOUR: 'it returns false'. Refute it at one input. -/
def vecPowersWrong : ChangeSpec := { name := "vecPowers", fn := fun _ => fun
  | [d1, d2] => { results := [.lit (.bool false)], args := [d1, d2] }
  | _ => none }
def VecPowersWrongFalsely : Prop := vecPowersRow.holds Try.pinned (OpenSpec.ofChange vecPowersWrong)

/-- 'gimballaw10.VecPower': WHATEVER THE INPUT: true; the input reads as it did. -/
def vecPowerSpec : ChangeSpec := { name := "vecPower", fn := fun _ => fun
  | [d1, d2] => { results := [.lit (.bool true)], args := [d1, d2] }
  | _ => none }
def vecPowerRow : OpenClaim := { program := "ytokgfeeaoioegaa", sum := "2994674524cb32537662f4d4ea7fe5c3b3c13007818fb1497e9307480aea4505", func := "gimbal/gimballaw10.VecPower", spec := "vecPower", inPlace := ["math/bits.Add64", "math/bits.Sub64"], unfollowed := true, recurses := true, apart := false }
def VecPowerSaid : Prop := vecPowerRow.holds Try.pinned (OpenSpec.ofChange vecPowerSpec)

/-- ITS FALSE NEIGHBOUR: 'it returns false'. Refute it at one input. -/
def vecPowerWrong : ChangeSpec := { name := "vecPower", fn := fun _ => fun
  | [d1, d2] => { results := [.lit (.bool false)], args := [d1, d2] }
  | _ => none }
def VecPowerWrongFalsely : Prop := vecPowerRow.holds Try.pinned (OpenSpec.ofChange vecPowerWrong)

/- THE SECOND FORM. 'bulk': how many values and letters a reading holds, each counted each time it is reached (what is shared counts as often as it is met; a slice's spare places count too). A statement '..UptoSaid' is the law's where the arguments, and the package variables that the reading takes, are together of bulk at most 1048576: NARROWER than '..Said'. Prove '..Said' where nothing that the law and all that it calls make is longer than what came in: it says more and counts as full. Else prove '..UptoSaid'. A law counts once. -/
mutual
def uptoBulk {H : Type} : DataW H → Nat
  | .lit (.string bytes) => bytes.length + 1
  | .lit _ => 1
  | .nil => 1
  | .ptr d => uptoBulk d + 1
  | .slice elems spare => uptoBulkAll elems + uptoBulkAll spare + 1
  | .agg parts => uptoBulkAll parts + 1
  | .iface _ d => uptoBulk d + 1
  | .map entries => uptoBulkEntries entries + 1
  | .held _ => 1
def uptoBulkAll {H : Type} : List (DataW H) → Nat
  | [] => 0
  | d :: r => uptoBulk d + uptoBulkAll r
def uptoBulkEntries {H : Type} : List (Lit × DataW H) → Nat
  | [] => 0
  | x :: r => uptoBulkEntry x + uptoBulkEntries r
def uptoBulkEntry {H : Type} : Lit × DataW H → Nat
  | (.string bytes, d) => bytes.length + uptoBulk d + 1
  | (_, d) => uptoBulk d + 1
 end
def uptoSmall : (H : Type) → List (DataW H) → Bool := fun _ ds => decide (uptoBulkAll ds ≤ 1048576)
def OpenSpec.upto (s : _root_.Go.ChangeSpec) : _root_.Go.OpenSpec := { _root_.Go.OpenSpec.ofChange s with cond := some uptoSmall }

/-- 'gimballaw09.MatChecks', WHERE WHAT IT READS IS OF BULK AT MOST 1048576: true; the input reads as it did. -/
def matChecksUptoRow : OpenClaim := { program := "ytokgfeeaoioegaa", sum := "2994674524cb32537662f4d4ea7fe5c3b3c13007818fb1497e9307480aea4505", func := "gimbal/gimballaw09.MatChecks", spec := "matChecks", inPlace := ["math/bits.Add64", "math/bits.Sub64"], unfollowed := true, recurses := true, apart := false, narrowed := true }
def MatChecksUptoSaid : Prop := matChecksUptoRow.holds Try.pinned (OpenSpec.upto matChecksSpec)

/-- 'gimballaw09.MatCopies', WHERE WHAT IT READS IS OF BULK AT MOST 1048576: true; the input reads as it did. -/
def matCopiesUptoRow : OpenClaim := { program := "ytokgfeeaoioegaa", sum := "2994674524cb32537662f4d4ea7fe5c3b3c13007818fb1497e9307480aea4505", func := "gimbal/gimballaw09.MatCopies", spec := "matCopies", inPlace := ["math/bits.Add64", "math/bits.Sub64"], unfollowed := true, recurses := true, apart := false, narrowed := true }
def MatCopiesUptoSaid : Prop := matCopiesUptoRow.holds Try.pinned (OpenSpec.upto matCopiesSpec)

/-- 'gimballaw09.MatOnes', WHERE WHAT IT READS IS OF BULK AT MOST 1048576: true; the input reads as it did. -/
def matOnesUptoRow : OpenClaim := { program := "ytokgfeeaoioegaa", sum := "2994674524cb32537662f4d4ea7fe5c3b3c13007818fb1497e9307480aea4505", func := "gimbal/gimballaw09.MatOnes", spec := "matOnes", inPlace := ["math/bits.Add64", "math/bits.Sub64"], unfollowed := true, recurses := true, apart := false, narrowed := true }
def MatOnesUptoSaid : Prop := matOnesUptoRow.holds Try.pinned (OpenSpec.upto matOnesSpec)

/-- 'gimballaw09.MatUnits', WHERE WHAT IT READS IS OF BULK AT MOST 1048576: true; the input reads as it did. -/
def matUnitsUptoRow : OpenClaim := { program := "ytokgfeeaoioegaa", sum := "2994674524cb32537662f4d4ea7fe5c3b3c13007818fb1497e9307480aea4505", func := "gimbal/gimballaw09.MatUnits", spec := "matUnits", inPlace := ["math/bits.Add64", "math/bits.Sub64"], unfollowed := true, recurses := true, apart := false, narrowed := true }
def MatUnitsUptoSaid : Prop := matUnitsUptoRow.holds Try.pinned (OpenSpec.upto matUnitsSpec)

/-- 'gimballaw09.MatScales', WHERE WHAT IT READS IS OF BULK AT MOST 1048576: true; the input reads as it did. -/
def matScalesUptoRow : OpenClaim := { program := "ytokgfeeaoioegaa", sum := "2994674524cb32537662f4d4ea7fe5c3b3c13007818fb1497e9307480aea4505", func := "gimbal/gimballaw09.MatScales", spec := "matScales", inPlace := ["math/bits.Add64", "math/bits.Sub64"], unfollowed := true, recurses := true, apart := false, narrowed := true }
def MatScalesUptoSaid : Prop := matScalesUptoRow.holds Try.pinned (OpenSpec.upto matScalesSpec)

/-- 'gimballaw09.MatParts', WHERE WHAT IT READS IS OF BULK AT MOST 1048576: true; the input reads as it did. -/
def matPartsUptoRow : OpenClaim := { program := "ytokgfeeaoioegaa", sum := "2994674524cb32537662f4d4ea7fe5c3b3c13007818fb1497e9307480aea4505", func := "gimbal/gimballaw09.MatParts", spec := "matParts", inPlace := ["math/bits.Add64", "math/bits.Sub64"], unfollowed := true, recurses := true, apart := false, narrowed := true }
def MatPartsUptoSaid : Prop := matPartsUptoRow.holds Try.pinned (OpenSpec.upto matPartsSpec)

/-- 'gimballaw10.VecSteps', WHERE WHAT IT READS IS OF BULK AT MOST 1048576: true; the input reads as it did. -/
def vecStepsUptoRow : OpenClaim := { program := "ytokgfeeaoioegaa", sum := "2994674524cb32537662f4d4ea7fe5c3b3c13007818fb1497e9307480aea4505", func := "gimbal/gimballaw10.VecSteps", spec := "vecSteps", inPlace := ["math/bits.Add64", "math/bits.Sub64"], unfollowed := true, recurses := true, apart := false, narrowed := true }
def VecStepsUptoSaid : Prop := vecStepsUptoRow.holds Try.pinned (OpenSpec.upto vecStepsSpec)

/-- 'gimballaw10.VecDots', WHERE WHAT IT READS IS OF BULK AT MOST 1048576: true; the input reads as it did. -/
def vecDotsUptoRow : OpenClaim := { program := "ytokgfeeaoioegaa", sum := "2994674524cb32537662f4d4ea7fe5c3b3c13007818fb1497e9307480aea4505", func := "gimbal/gimballaw10.VecDots", spec := "vecDots", inPlace := ["math/bits.Add64", "math/bits.Sub64"], unfollowed := true, recurses := true, apart := false, narrowed := true }
def VecDotsUptoSaid : Prop := vecDotsUptoRow.holds Try.pinned (OpenSpec.upto vecDotsSpec)

/-- 'gimballaw10.VecNorms', WHERE WHAT IT READS IS OF BULK AT MOST 1048576: true; the input reads as it did. -/
def vecNormsUptoRow : OpenClaim := { program := "ytokgfeeaoioegaa", sum := "2994674524cb32537662f4d4ea7fe5c3b3c13007818fb1497e9307480aea4505", func := "gimbal/gimballaw10.VecNorms", spec := "vecNorms", inPlace := ["math/bits.Add64", "math/bits.Sub64"], unfollowed := true, recurses := true, apart := false, narrowed := true }
def VecNormsUptoSaid : Prop := vecNormsUptoRow.holds Try.pinned (OpenSpec.upto vecNormsSpec)

/-- 'gimballaw10.VecNormSteps', WHERE WHAT IT READS IS OF BULK AT MOST 1048576: true; the input reads as it did. -/
def vecNormStepsUptoRow : OpenClaim := { program := "ytokgfeeaoioegaa", sum := "2994674524cb32537662f4d4ea7fe5c3b3c13007818fb1497e9307480aea4505", func := "gimbal/gimballaw10.VecNormSteps", spec := "vecNormSteps", inPlace := ["math/bits.Add64", "math/bits.Sub64"], unfollowed := true, recurses := true, apart := false, narrowed := true }
def VecNormStepsUptoSaid : Prop := vecNormStepsUptoRow.holds Try.pinned (OpenSpec.upto vecNormStepsSpec)

/-- 'gimballaw10.VecPowers', WHERE WHAT IT READS IS OF BULK AT MOST 1048576: true; the input reads as it did. -/
def vecPowersUptoRow : OpenClaim := { program := "ytokgfeeaoioegaa", sum := "2994674524cb32537662f4d4ea7fe5c3b3c13007818fb1497e9307480aea4505", func := "gimbal/gimballaw10.VecPowers", spec := "vecPowers", inPlace := ["math/bits.Add64", "math/bits.Sub64"], unfollowed := true, recurses := true, apart := false, narrowed := true }
def VecPowersUptoSaid : Prop := vecPowersUptoRow.holds Try.pinned (OpenSpec.upto vecPowersSpec)

/-- 'gimballaw10.VecPower', WHERE WHAT IT READS IS OF BULK AT MOST 1048576: true; the input reads as it did. -/
def vecPowerUptoRow : OpenClaim := { program := "ytokgfeeaoioegaa", sum := "2994674524cb32537662f4d4ea7fe5c3b3c13007818fb1497e9307480aea4505", func := "gimbal/gimballaw10.VecPower", spec := "vecPower", inPlace := ["math/bits.Add64", "math/bits.Sub64"], unfollowed := true, recurses := true, apart := false, narrowed := true }
def VecPowerUptoSaid : Prop := vecPowerUptoRow.holds Try.pinned (OpenSpec.upto vecPowerSpec)

end Rows
end Go.Proofs.Ytokgfeeaoioegaa
