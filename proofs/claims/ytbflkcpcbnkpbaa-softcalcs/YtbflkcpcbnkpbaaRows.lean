/-
  No cell of these rows narrows 'for every input' (looked for: loops, veiled, ifaces, maps, wideKeys, modest, calm, conditions, laid).
  DERIVED. THE GIVEN ROWS OF THIS SEAT. 13 by the template 'for every input the law returns true; each argument reads behind the call as it read before'; 0 by the template 'total and deterministic' (their statements: YtbflkcpcbnkpbaaTotals.lean).
  GIVEN WITH THE SEED: the statements are not yours to turn. If you find one false, say at which input.
  Laid BY PROGRAM, IN A SANDBOX (cutbox-rows.mjs): the forced cells as the released guide's own fill.sh prints them over the translation a0c7f3ec3c57148c… (all of the seat's roots in one cut). By AI agents, Wed Nov 11 2026. No macro, syntax, notation, axiom, sorry.
-/
import Derived.Test.YtbflkcpcbnkpbaaChecked
import GoSem.Claim
import GoSem.ClaimJoined
import GoSem.ClaimMapViews
import Derived.JoinedTies
import Derived.KernelRfl
namespace Go.Proofs.Ytbflkcpcbnkpbaa
/- THE CELL 'sum', in the pinned program and in every row, IS THE sha256 OF THE DUMP (.gsa) THAT YtbflkcpcbnkpbaaProg.lean LOADS. Nothing in Lean hashes anything: it is a label: what it is worth is what the hold of that sum in a sandbox is worth. -/
noncomputable def Try.pinned : Pinned := { name := "ytbflkcpcbnkpbaa", sum := "a0c7f3ec3c57148c4e3d06f93148ffe636211ba6f7a3a1ea383b39037795121f", checked := Try.checked }
namespace Rows
def none {H : Type} : Left H := { results := [], args := [] }

/-- 'gimballaw03.RoundAny': WHATEVER THE INPUT: true; the input reads as it did. -/
def roundAnySpec : ChangeSpec := { name := "roundAny", fn := fun _ => fun
  | [d1, d2, d3, d4] => { results := [.lit (.bool true)], args := [d1, d2, d3, d4] }
  | _ => none }
def roundAnyRow : OpenClaim := { program := "ytbflkcpcbnkpbaa", sum := "a0c7f3ec3c57148c4e3d06f93148ffe636211ba6f7a3a1ea383b39037795121f", func := "gimbal/gimballaw03.RoundAny", spec := "roundAny", apart := false }
def RoundAnySaid : Prop := roundAnyRow.holds Try.pinned (OpenSpec.ofChange roundAnySpec)

/-- ITS FALSE NEIGHBOUR: 'it returns false'. Refute it at one input. -/
def roundAnyWrong : ChangeSpec := { name := "roundAny", fn := fun _ => fun
  | [d1, d2, d3, d4] => { results := [.lit (.bool false)], args := [d1, d2, d3, d4] }
  | _ => none }
def RoundAnyWrongFalsely : Prop := roundAnyRow.holds Try.pinned (OpenSpec.ofChange roundAnyWrong)

/-- 'gimballaw03.RoundExact': WHATEVER THE INPUT: true; the input reads as it did. -/
def roundExactSpec : ChangeSpec := { name := "roundExact", fn := fun _ => fun
  | [d1, d2] => { results := [.lit (.bool true)], args := [d1, d2] }
  | _ => none }
def roundExactRow : OpenClaim := { program := "ytbflkcpcbnkpbaa", sum := "a0c7f3ec3c57148c4e3d06f93148ffe636211ba6f7a3a1ea383b39037795121f", func := "gimbal/gimballaw03.RoundExact", spec := "roundExact", apart := false }
def RoundExactSaid : Prop := roundExactRow.holds Try.pinned (OpenSpec.ofChange roundExactSpec)

/-- ITS FALSE NEIGHBOUR: 'it returns false'. Refute it at one input. -/
def roundExactWrong : ChangeSpec := { name := "roundExact", fn := fun _ => fun
  | [d1, d2] => { results := [.lit (.bool false)], args := [d1, d2] }
  | _ => none }
def RoundExactWrongFalsely : Prop := roundExactRow.holds Try.pinned (OpenSpec.ofChange roundExactWrong)

/-- 'gimballaw03.RoundOrder': WHATEVER THE INPUT: true; the input reads as it did. -/
def roundOrderSpec : ChangeSpec := { name := "roundOrder", fn := fun _ => fun
  | [d1, d2, d3] => { results := [.lit (.bool true)], args := [d1, d2, d3] }
  | _ => none }
def roundOrderRow : OpenClaim := { program := "ytbflkcpcbnkpbaa", sum := "a0c7f3ec3c57148c4e3d06f93148ffe636211ba6f7a3a1ea383b39037795121f", func := "gimbal/gimballaw03.RoundOrder", spec := "roundOrder", apart := false }
def RoundOrderSaid : Prop := roundOrderRow.holds Try.pinned (OpenSpec.ofChange roundOrderSpec)

/-- ITS FALSE NEIGHBOUR: 'it returns false'. Refute it at one input. -/
def roundOrderWrong : ChangeSpec := { name := "roundOrder", fn := fun _ => fun
  | [d1, d2, d3] => { results := [.lit (.bool false)], args := [d1, d2, d3] }
  | _ => none }
def RoundOrderWrongFalsely : Prop := roundOrderRow.holds Try.pinned (OpenSpec.ofChange roundOrderWrong)

/-- 'gimballaw03.RoundNear': WHATEVER THE INPUT: true; the input reads as it did. -/
def roundNearSpec : ChangeSpec := { name := "roundNear", fn := fun _ => fun
  | [d1, d2] => { results := [.lit (.bool true)], args := [d1, d2] }
  | _ => none }
def roundNearRow : OpenClaim := { program := "ytbflkcpcbnkpbaa", sum := "a0c7f3ec3c57148c4e3d06f93148ffe636211ba6f7a3a1ea383b39037795121f", func := "gimbal/gimballaw03.RoundNear", spec := "roundNear", unfollowed := true, recurses := true, apart := false }
def RoundNearSaid : Prop := roundNearRow.holds Try.pinned (OpenSpec.ofChange roundNearSpec)

/-- ITS FALSE NEIGHBOUR: 'it returns false'. Refute it at one input. -/
def roundNearWrong : ChangeSpec := { name := "roundNear", fn := fun _ => fun
  | [d1, d2] => { results := [.lit (.bool false)], args := [d1, d2] }
  | _ => none }
def RoundNearWrongFalsely : Prop := roundNearRow.holds Try.pinned (OpenSpec.ofChange roundNearWrong)

/-- 'gimballaw03.RoundPower': WHATEVER THE INPUT: true; the input reads as it did. -/
def roundPowerSpec : ChangeSpec := { name := "roundPower", fn := fun _ => fun
  | [d1, d2, d3] => { results := [.lit (.bool true)], args := [d1, d2, d3] }
  | _ => none }
def roundPowerRow : OpenClaim := { program := "ytbflkcpcbnkpbaa", sum := "a0c7f3ec3c57148c4e3d06f93148ffe636211ba6f7a3a1ea383b39037795121f", func := "gimbal/gimballaw03.RoundPower", spec := "roundPower", apart := false }
def RoundPowerSaid : Prop := roundPowerRow.holds Try.pinned (OpenSpec.ofChange roundPowerSpec)

/-- ITS FALSE NEIGHBOUR: 'it returns false'. Refute it at one input. -/
def roundPowerWrong : ChangeSpec := { name := "roundPower", fn := fun _ => fun
  | [d1, d2, d3] => { results := [.lit (.bool false)], args := [d1, d2, d3] }
  | _ => none }
def RoundPowerWrongFalsely : Prop := roundPowerRow.holds Try.pinned (OpenSpec.ofChange roundPowerWrong)

/-- 'gimballaw04.SoftAdds': WHATEVER THE INPUT: true; the input reads as it did. -/
def softAddsSpec : ChangeSpec := { name := "softAdds", fn := fun _ => fun
  | [d1, d2] => { results := [.lit (.bool true)], args := [d1, d2] }
  | _ => none }
def softAddsRow : OpenClaim := { program := "ytbflkcpcbnkpbaa", sum := "a0c7f3ec3c57148c4e3d06f93148ffe636211ba6f7a3a1ea383b39037795121f", func := "gimbal/gimballaw04.SoftAdds", spec := "softAdds", inPlace := ["math/bits.Add64", "math/bits.Sub64"], named := ["math/bits.divideError", "math/bits.overflowError"], apart := false }
def SoftAddsSaid : Prop := softAddsRow.holds Try.pinned (OpenSpec.ofChange softAddsSpec)

/-- ITS FALSE NEIGHBOUR: 'it returns false'. Refute it at one input. -/
def softAddsWrong : ChangeSpec := { name := "softAdds", fn := fun _ => fun
  | [d1, d2] => { results := [.lit (.bool false)], args := [d1, d2] }
  | _ => none }
def SoftAddsWrongFalsely : Prop := softAddsRow.holds Try.pinned (OpenSpec.ofChange softAddsWrong)

/-- 'gimballaw04.SoftSubs': WHATEVER THE INPUT: true; the input reads as it did. -/
def softSubsSpec : ChangeSpec := { name := "softSubs", fn := fun _ => fun
  | [d1, d2] => { results := [.lit (.bool true)], args := [d1, d2] }
  | _ => none }
def softSubsRow : OpenClaim := { program := "ytbflkcpcbnkpbaa", sum := "a0c7f3ec3c57148c4e3d06f93148ffe636211ba6f7a3a1ea383b39037795121f", func := "gimbal/gimballaw04.SoftSubs", spec := "softSubs", inPlace := ["math/bits.Add64", "math/bits.Sub64"], named := ["math/bits.divideError", "math/bits.overflowError"], apart := false }
def SoftSubsSaid : Prop := softSubsRow.holds Try.pinned (OpenSpec.ofChange softSubsSpec)

/-- ITS FALSE NEIGHBOUR: 'it returns false'. Refute it at one input. -/
def softSubsWrong : ChangeSpec := { name := "softSubs", fn := fun _ => fun
  | [d1, d2] => { results := [.lit (.bool false)], args := [d1, d2] }
  | _ => none }
def SoftSubsWrongFalsely : Prop := softSubsRow.holds Try.pinned (OpenSpec.ofChange softSubsWrong)

/-- 'gimballaw04.SoftMuls': WHATEVER THE INPUT: true; the input reads as it did. -/
def softMulsSpec : ChangeSpec := { name := "softMuls", fn := fun _ => fun
  | [d1, d2] => { results := [.lit (.bool true)], args := [d1, d2] }
  | _ => none }
def softMulsRow : OpenClaim := { program := "ytbflkcpcbnkpbaa", sum := "a0c7f3ec3c57148c4e3d06f93148ffe636211ba6f7a3a1ea383b39037795121f", func := "gimbal/gimballaw04.SoftMuls", spec := "softMuls", inPlace := ["math/bits.Add64", "math/bits.Sub64"], named := ["math/bits.divideError", "math/bits.overflowError"], apart := false }
def SoftMulsSaid : Prop := softMulsRow.holds Try.pinned (OpenSpec.ofChange softMulsSpec)

/-- ITS FALSE NEIGHBOUR: 'it returns false'. Refute it at one input. -/
def softMulsWrong : ChangeSpec := { name := "softMuls", fn := fun _ => fun
  | [d1, d2] => { results := [.lit (.bool false)], args := [d1, d2] }
  | _ => none }
def SoftMulsWrongFalsely : Prop := softMulsRow.holds Try.pinned (OpenSpec.ofChange softMulsWrong)

/-- 'gimballaw04.SoftDivs': WHATEVER THE INPUT: true; the input reads as it did. -/
def softDivsSpec : ChangeSpec := { name := "softDivs", fn := fun _ => fun
  | [d1, d2] => { results := [.lit (.bool true)], args := [d1, d2] }
  | _ => none }
def softDivsRow : OpenClaim := { program := "ytbflkcpcbnkpbaa", sum := "a0c7f3ec3c57148c4e3d06f93148ffe636211ba6f7a3a1ea383b39037795121f", func := "gimbal/gimballaw04.SoftDivs", spec := "softDivs", inPlace := ["math/bits.Add64", "math/bits.Sub64"], named := ["math/bits.divideError", "math/bits.overflowError"], apart := false }
def SoftDivsSaid : Prop := softDivsRow.holds Try.pinned (OpenSpec.ofChange softDivsSpec)

/-- ITS FALSE NEIGHBOUR: 'it returns false'. Refute it at one input. -/
def softDivsWrong : ChangeSpec := { name := "softDivs", fn := fun _ => fun
  | [d1, d2] => { results := [.lit (.bool false)], args := [d1, d2] }
  | _ => none }
def SoftDivsWrongFalsely : Prop := softDivsRow.holds Try.pinned (OpenSpec.ofChange softDivsWrong)

/-- 'gimballaw04.SoftLaws': WHATEVER THE INPUT: true; the input reads as it did. -/
def softLawsSpec : ChangeSpec := { name := "softLaws", fn := fun _ => fun
  | [d1, d2] => { results := [.lit (.bool true)], args := [d1, d2] }
  | _ => none }
def softLawsRow : OpenClaim := { program := "ytbflkcpcbnkpbaa", sum := "a0c7f3ec3c57148c4e3d06f93148ffe636211ba6f7a3a1ea383b39037795121f", func := "gimbal/gimballaw04.SoftLaws", spec := "softLaws", inPlace := ["math/bits.Add64", "math/bits.Sub64"], named := ["math/bits.divideError", "math/bits.overflowError"], apart := false }
def SoftLawsSaid : Prop := softLawsRow.holds Try.pinned (OpenSpec.ofChange softLawsSpec)

/-- ITS FALSE NEIGHBOUR: 'it returns false'. Refute it at one input. -/
def softLawsWrong : ChangeSpec := { name := "softLaws", fn := fun _ => fun
  | [d1, d2] => { results := [.lit (.bool false)], args := [d1, d2] }
  | _ => none }
def SoftLawsWrongFalsely : Prop := softLawsRow.holds Try.pinned (OpenSpec.ofChange softLawsWrong)

/-- 'gimballaw04.SoftExact': WHATEVER THE INPUT: true; the input reads as it did. -/
def softExactSpec : ChangeSpec := { name := "softExact", fn := fun _ => fun
  | [d1, d2] => { results := [.lit (.bool true)], args := [d1, d2] }
  | _ => none }
def softExactRow : OpenClaim := { program := "ytbflkcpcbnkpbaa", sum := "a0c7f3ec3c57148c4e3d06f93148ffe636211ba6f7a3a1ea383b39037795121f", func := "gimbal/gimballaw04.SoftExact", spec := "softExact", inPlace := ["math/bits.Add64", "math/bits.Sub64"], named := ["math/bits.divideError", "math/bits.overflowError"], apart := false }
def SoftExactSaid : Prop := softExactRow.holds Try.pinned (OpenSpec.ofChange softExactSpec)

/-- ITS FALSE NEIGHBOUR: 'it returns false'. Refute it at one input. -/
def softExactWrong : ChangeSpec := { name := "softExact", fn := fun _ => fun
  | [d1, d2] => { results := [.lit (.bool false)], args := [d1, d2] }
  | _ => none }
def SoftExactWrongFalsely : Prop := softExactRow.holds Try.pinned (OpenSpec.ofChange softExactWrong)

/-- 'gimballaw04.SoftCalcs': WHATEVER THE INPUT: true; the input reads as it did. -/
def softCalcsSpec : ChangeSpec := { name := "softCalcs", fn := fun _ => fun
  | [d1, d2] => { results := [.lit (.bool true)], args := [d1, d2] }
  | _ => none }
def softCalcsRow : OpenClaim := { program := "ytbflkcpcbnkpbaa", sum := "a0c7f3ec3c57148c4e3d06f93148ffe636211ba6f7a3a1ea383b39037795121f", func := "gimbal/gimballaw04.SoftCalcs", spec := "softCalcs", inPlace := ["math/bits.Add64", "math/bits.Sub64"], named := ["math/bits.divideError", "math/bits.overflowError"], apart := false }
def SoftCalcsSaid : Prop := softCalcsRow.holds Try.pinned (OpenSpec.ofChange softCalcsSpec)

/-- ITS FALSE NEIGHBOUR: 'it returns false'. Refute it at one input. -/
def softCalcsWrong : ChangeSpec := { name := "softCalcs", fn := fun _ => fun
  | [d1, d2] => { results := [.lit (.bool false)], args := [d1, d2] }
  | _ => none }
def SoftCalcsWrongFalsely : Prop := softCalcsRow.holds Try.pinned (OpenSpec.ofChange softCalcsWrong)

/-- 'gimballaw04.SoftOrder': WHATEVER THE INPUT: true; the input reads as it did. -/
def softOrderSpec : ChangeSpec := { name := "softOrder", fn := fun _ => fun
  | [d1, d2, d3] => { results := [.lit (.bool true)], args := [d1, d2, d3] }
  | _ => none }
def softOrderRow : OpenClaim := { program := "ytbflkcpcbnkpbaa", sum := "a0c7f3ec3c57148c4e3d06f93148ffe636211ba6f7a3a1ea383b39037795121f", func := "gimbal/gimballaw04.SoftOrder", spec := "softOrder", inPlace := ["math/bits.Add64", "math/bits.Sub64"], unfollowed := true, recurses := true, named := ["math/bits.divideError", "math/bits.overflowError"], apart := false }
def SoftOrderSaid : Prop := softOrderRow.holds Try.pinned (OpenSpec.ofChange softOrderSpec)

/-- ITS FALSE NEIGHBOUR: 'it returns false'. Refute it at one input. -/
def softOrderWrong : ChangeSpec := { name := "softOrder", fn := fun _ => fun
  | [d1, d2, d3] => { results := [.lit (.bool false)], args := [d1, d2, d3] }
  | _ => none }
def SoftOrderWrongFalsely : Prop := softOrderRow.holds Try.pinned (OpenSpec.ofChange softOrderWrong)

/- THE SECOND FORM. 'bulk': how many values and letters a reading holds, each counted each time it is reached (what is shared counts as often as it is met; a slice's spare places count too). A statement '..UptoSaid' is the law's where the arguments, and the package variables that the reading takes, are together of bulk at most 1048576: NARROWER than '..Said'. Prove '..Said' where nothing that the law and all that it calls make is longer than what came in: it says more and counts as full. Else prove '..UptoSaid'. A law counts once. -/
mutual
def uptoBulk {H : Type} : DataW H → Nat
  | .lit (.string bytes) => bytes.length + 1
  | .lit _ => 1
  | .nil => 1
  | .ptr d => uptoBulk d + 1
  | .slice elems spare => uptoBulkAll elems + uptoBulkAll spare + 1
  | .agg parts => uptoBulkAll parts + 1
  | .iface _ d => uptoBulk d + 1
  | .map entries => uptoBulkEntries entries + 1
  | .held _ => 1
def uptoBulkAll {H : Type} : List (DataW H) → Nat
  | [] => 0
  | d :: r => uptoBulk d + uptoBulkAll r
def uptoBulkEntries {H : Type} : List (Lit × DataW H) → Nat
  | [] => 0
  | x :: r => uptoBulkEntry x + uptoBulkEntries r
def uptoBulkEntry {H : Type} : Lit × DataW H → Nat
  | (.string bytes, d) => bytes.length + uptoBulk d + 1
  | (_, d) => uptoBulk d + 1
 end
def uptoSmall : (H : Type) → List (DataW H) → Bool := fun _ ds => decide (uptoBulkAll ds ≤ 1048576)
def OpenSpec.upto (s : _root_.Go.ChangeSpec) : _root_.Go.OpenSpec := { _root_.Go.OpenSpec.ofChange s with cond := some uptoSmall }

/-- 'gimballaw03.RoundAny', WHERE WHAT IT READS IS OF BULK AT MOST 1048576: true; the input reads as it did. -/
def roundAnyUptoRow : OpenClaim := { program := "ytbflkcpcbnkpbaa", sum := "a0c7f3ec3c57148c4e3d06f93148ffe636211ba6f7a3a1ea383b39037795121f", func := "gimbal/gimballaw03.RoundAny", spec := "roundAny", apart := false, narrowed := true }
def RoundAnyUptoSaid : Prop := roundAnyUptoRow.holds Try.pinned (OpenSpec.upto roundAnySpec)

/-- 'gimballaw03.RoundExact', WHERE WHAT IT READS IS OF BULK AT MOST 1048576: true; the input reads as it did. -/
def roundExactUptoRow : OpenClaim := { program := "ytbflkcpcbnkpbaa", sum := "a0c7f3ec3c57148c4e3d06f93148ffe636211ba6f7a3a1ea383b39037795121f", func := "gimbal/gimballaw03.RoundExact", spec := "roundExact", apart := false, narrowed := true }
def RoundExactUptoSaid : Prop := roundExactUptoRow.holds Try.pinned (OpenSpec.upto roundExactSpec)

/-- 'gimballaw03.RoundOrder', WHERE WHAT IT READS IS OF BULK AT MOST 1048576: true; the input reads as it did. -/
def roundOrderUptoRow : OpenClaim := { program := "ytbflkcpcbnkpbaa", sum := "a0c7f3ec3c57148c4e3d06f93148ffe636211ba6f7a3a1ea383b39037795121f", func := "gimbal/gimballaw03.RoundOrder", spec := "roundOrder", apart := false, narrowed := true }
def RoundOrderUptoSaid : Prop := roundOrderUptoRow.holds Try.pinned (OpenSpec.upto roundOrderSpec)

/-- 'gimballaw03.RoundNear', WHERE WHAT IT READS IS OF BULK AT MOST 1048576: true; the input reads as it did. -/
def roundNearUptoRow : OpenClaim := { program := "ytbflkcpcbnkpbaa", sum := "a0c7f3ec3c57148c4e3d06f93148ffe636211ba6f7a3a1ea383b39037795121f", func := "gimbal/gimballaw03.RoundNear", spec := "roundNear", unfollowed := true, recurses := true, apart := false, narrowed := true }
def RoundNearUptoSaid : Prop := roundNearUptoRow.holds Try.pinned (OpenSpec.upto roundNearSpec)

/-- 'gimballaw03.RoundPower', WHERE WHAT IT READS IS OF BULK AT MOST 1048576: true; the input reads as it did. -/
def roundPowerUptoRow : OpenClaim := { program := "ytbflkcpcbnkpbaa", sum := "a0c7f3ec3c57148c4e3d06f93148ffe636211ba6f7a3a1ea383b39037795121f", func := "gimbal/gimballaw03.RoundPower", spec := "roundPower", apart := false, narrowed := true }
def RoundPowerUptoSaid : Prop := roundPowerUptoRow.holds Try.pinned (OpenSpec.upto roundPowerSpec)

/-- 'gimballaw04.SoftAdds', WHERE WHAT IT READS IS OF BULK AT MOST 1048576: true; the input reads as it did. -/
def softAddsUptoRow : OpenClaim := { program := "ytbflkcpcbnkpbaa", sum := "a0c7f3ec3c57148c4e3d06f93148ffe636211ba6f7a3a1ea383b39037795121f", func := "gimbal/gimballaw04.SoftAdds", spec := "softAdds", inPlace := ["math/bits.Add64", "math/bits.Sub64"], named := ["math/bits.divideError", "math/bits.overflowError"], apart := false, narrowed := true }
def SoftAddsUptoSaid : Prop := softAddsUptoRow.holds Try.pinned (OpenSpec.upto softAddsSpec)

/-- 'gimballaw04.SoftSubs', WHERE WHAT IT READS IS OF BULK AT MOST 1048576: true; the input reads as it did. -/
def softSubsUptoRow : OpenClaim := { program := "ytbflkcpcbnkpbaa", sum := "a0c7f3ec3c57148c4e3d06f93148ffe636211ba6f7a3a1ea383b39037795121f", func := "gimbal/gimballaw04.SoftSubs", spec := "softSubs", inPlace := ["math/bits.Add64", "math/bits.Sub64"], named := ["math/bits.divideError", "math/bits.overflowError"], apart := false, narrowed := true }
def SoftSubsUptoSaid : Prop := softSubsUptoRow.holds Try.pinned (OpenSpec.upto softSubsSpec)

/-- 'gimballaw04.SoftMuls', WHERE WHAT IT READS IS OF BULK AT MOST 1048576: true; the input reads as it did. -/
def softMulsUptoRow : OpenClaim := { program := "ytbflkcpcbnkpbaa", sum := "a0c7f3ec3c57148c4e3d06f93148ffe636211ba6f7a3a1ea383b39037795121f", func := "gimbal/gimballaw04.SoftMuls", spec := "softMuls", inPlace := ["math/bits.Add64", "math/bits.Sub64"], named := ["math/bits.divideError", "math/bits.overflowError"], apart := false, narrowed := true }
def SoftMulsUptoSaid : Prop := softMulsUptoRow.holds Try.pinned (OpenSpec.upto softMulsSpec)

/-- 'gimballaw04.SoftDivs', WHERE WHAT IT READS IS OF BULK AT MOST 1048576: true; the input reads as it did. -/
def softDivsUptoRow : OpenClaim := { program := "ytbflkcpcbnkpbaa", sum := "a0c7f3ec3c57148c4e3d06f93148ffe636211ba6f7a3a1ea383b39037795121f", func := "gimbal/gimballaw04.SoftDivs", spec := "softDivs", inPlace := ["math/bits.Add64", "math/bits.Sub64"], named := ["math/bits.divideError", "math/bits.overflowError"], apart := false, narrowed := true }
def SoftDivsUptoSaid : Prop := softDivsUptoRow.holds Try.pinned (OpenSpec.upto softDivsSpec)

/-- 'gimballaw04.SoftLaws', WHERE WHAT IT READS IS OF BULK AT MOST 1048576: true; the input reads as it did. -/
def softLawsUptoRow : OpenClaim := { program := "ytbflkcpcbnkpbaa", sum := "a0c7f3ec3c57148c4e3d06f93148ffe636211ba6f7a3a1ea383b39037795121f", func := "gimbal/gimballaw04.SoftLaws", spec := "softLaws", inPlace := ["math/bits.Add64", "math/bits.Sub64"], named := ["math/bits.divideError", "math/bits.overflowError"], apart := false, narrowed := true }
def SoftLawsUptoSaid : Prop := softLawsUptoRow.holds Try.pinned (OpenSpec.upto softLawsSpec)

/-- 'gimballaw04.SoftExact', WHERE WHAT IT READS IS OF BULK AT MOST 1048576: true; the input reads as it did. -/
def softExactUptoRow : OpenClaim := { program := "ytbflkcpcbnkpbaa", sum := "a0c7f3ec3c57148c4e3d06f93148ffe636211ba6f7a3a1ea383b39037795121f", func := "gimbal/gimballaw04.SoftExact", spec := "softExact", inPlace := ["math/bits.Add64", "math/bits.Sub64"], named := ["math/bits.divideError", "math/bits.overflowError"], apart := false, narrowed := true }
def SoftExactUptoSaid : Prop := softExactUptoRow.holds Try.pinned (OpenSpec.upto softExactSpec)

/-- 'gimballaw04.SoftCalcs', WHERE WHAT IT READS IS OF BULK AT MOST 1048576: true; the input reads as it did. -/
def softCalcsUptoRow : OpenClaim := { program := "ytbflkcpcbnkpbaa", sum := "a0c7f3ec3c57148c4e3d06f93148ffe636211ba6f7a3a1ea383b39037795121f", func := "gimbal/gimballaw04.SoftCalcs", spec := "softCalcs", inPlace := ["math/bits.Add64", "math/bits.Sub64"], named := ["math/bits.divideError", "math/bits.overflowError"], apart := false, narrowed := true }
def SoftCalcsUptoSaid : Prop := softCalcsUptoRow.holds Try.pinned (OpenSpec.upto softCalcsSpec)

/-- 'gimballaw04.SoftOrder', WHERE WHAT IT READS IS OF BULK AT MOST 1048576: true; the input reads as it did. -/
def softOrderUptoRow : OpenClaim := { program := "ytbflkcpcbnkpbaa", sum := "a0c7f3ec3c57148c4e3d06f93148ffe636211ba6f7a3a1ea383b39037795121f", func := "gimbal/gimballaw04.SoftOrder", spec := "softOrder", inPlace := ["math/bits.Add64", "math/bits.Sub64"], unfollowed := true, recurses := true, named := ["math/bits.divideError", "math/bits.overflowError"], apart := false, narrowed := true }
def SoftOrderUptoSaid : Prop := softOrderUptoRow.holds Try.pinned (OpenSpec.upto softOrderSpec)

end Rows
end Go.Proofs.Ytbflkcpcbnkpbaa
