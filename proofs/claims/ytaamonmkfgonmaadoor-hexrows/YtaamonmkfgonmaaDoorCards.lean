/-
  DERIVED. GIVEN WITH THE SEED: THE CARDS: each row of YtaamonmkfgonmaaDoorRows.lean that lists a variable, with what it lists TIED to the program's text (the seventh form; the later family's looks); each row that meets fmt, with fmt's text TOLD by the authors' own Lean function (tested against real Go, not proved from fmt's source: count such statements apart). THE CARD IS WHAT COUNTS. Prove the row's statement (the work); the ties are given (YtaamonmkfgonmaaDoorTie.lean); close each card by the builder's one call (the guide's Derived/Test/ToyasCard.lean, 'card_holds'). Laid BY PROGRAM, IN A SANDBOX (cutbox-door.mjs). By AI agents, Wed Nov 11 2026. No macro, syntax, notation, axiom, sorry.
-/
import Derived.Test.YtaamonmkfgonmaaDoorRows
import GoSem.ClaimSeven
namespace Go.Proofs.YtaamonmkfgonmaaDoor
namespace Rows

/-- THE TIED CARD OF 'gimballaw08.HexTexts'. -/
def hexTextsCard : Claim7 := { stood := { row := hexTextsRow, standIns := [], harness := (true, "88bb4d0454be880a50e26ae4016dee63b7b9867b38e9ed8a25d6fbd7aeb2de2d"), looks := true }, kinds := [], alts := [], laidByText := true, laidKinds := [.data, .data, .data, .sentinel, .sentinel], laidTests := true, laidLooks := .later }
def HexTextsCardSaid : Prop := Claim7.holds Tryd.pinned (.plain (OpenSpec.ofChange hexTextsSpec)) hexTextsCard

/-- THE TIED CARD OF 'gimballaw08.HexParses'. -/
def hexParsesCard : Claim7 := { stood := { row := hexParsesRow, standIns := [], harness := (true, "88bb4d0454be880a50e26ae4016dee63b7b9867b38e9ed8a25d6fbd7aeb2de2d"), looks := true }, kinds := [], alts := [], laidByText := true, laidKinds := [.data, .data, .data, .sentinel, .sentinel], laidTests := true, laidLooks := .later }
def HexParsesCardSaid : Prop := Claim7.holds Tryd.pinned (.plain (OpenSpec.ofChange hexParsesSpec)) hexParsesCard

/-- THE TIED CARD OF 'gimballaw08.HexNear'. -/
def hexNearCard : Claim7 := { stood := { row := hexNearRow, standIns := [], harness := (true, "88bb4d0454be880a50e26ae4016dee63b7b9867b38e9ed8a25d6fbd7aeb2de2d"), looks := true }, kinds := [], alts := [], laidByText := true, laidKinds := [.data, .data, .data, .data, .sentinel, .sentinel, .pinned, .pinned], laidTests := true, laidLooks := .later }
def HexNearCardSaid : Prop := Claim7.holds Tryd.pinned (.plain (OpenSpec.ofChange hexNearSpec)) hexNearCard

/-- THE TIED CARD OF 'gimballaw08.HexRows'. -/
def hexRowsCard : Claim7 := { stood := { row := hexRowsRow, standIns := [], harness := (true, "88bb4d0454be880a50e26ae4016dee63b7b9867b38e9ed8a25d6fbd7aeb2de2d"), looks := true }, kinds := [], alts := [], laidByText := true, laidKinds := [.data, .data, .data, .sentinel, .sentinel], laidTests := true, laidLooks := .later }
def HexRowsCardSaid : Prop := Claim7.holds Tryd.pinned (.plain (OpenSpec.ofChange hexRowsSpec)) hexRowsCard

/-- THE TIED CARD OF 'gimballaw08.HexMatrices'. -/
def hexMatricesCard : Claim7 := { stood := { row := hexMatricesRow, standIns := [], harness := (true, "88bb4d0454be880a50e26ae4016dee63b7b9867b38e9ed8a25d6fbd7aeb2de2d"), looks := true }, kinds := [], alts := [], laidByText := true, laidKinds := [.data, .data, .data, .sentinel, .sentinel], laidTests := true, laidLooks := .later }
def HexMatricesCardSaid : Prop := Claim7.holds Tryd.pinned (.plain (OpenSpec.ofChange hexMatricesSpec)) hexMatricesCard

/-- THE TIED CARD OF 'gimballaw08.HexSigns'. -/
def hexSignsCard : Claim7 := { stood := { row := hexSignsRow, standIns := [], harness := (true, "88bb4d0454be880a50e26ae4016dee63b7b9867b38e9ed8a25d6fbd7aeb2de2d"), looks := true }, kinds := [], alts := [], laidByText := true, laidKinds := [.data, .data, .data], laidTests := true, laidLooks := .later }
def HexSignsCardSaid : Prop := Claim7.holds Tryd.pinned (.plain (OpenSpec.ofChange hexSignsSpec)) hexSignsCard

/-- THE SECOND FORM's CARD OF 'gimballaw08.HexTexts'. -/
def hexTextsUptoCard : Claim7 := { stood := { row := hexTextsUptoRow, standIns := [], harness := (true, "88bb4d0454be880a50e26ae4016dee63b7b9867b38e9ed8a25d6fbd7aeb2de2d"), looks := true }, kinds := [], alts := [], laidByText := true, laidKinds := [.data, .data, .data, .sentinel, .sentinel], laidTests := true, laidLooks := .later }
def HexTextsUptoCardSaid : Prop := Claim7.holds Tryd.pinned (.plain (OpenSpec.upto hexTextsSpec)) hexTextsUptoCard

/-- THE SECOND FORM's CARD OF 'gimballaw08.HexParses'. -/
def hexParsesUptoCard : Claim7 := { stood := { row := hexParsesUptoRow, standIns := [], harness := (true, "88bb4d0454be880a50e26ae4016dee63b7b9867b38e9ed8a25d6fbd7aeb2de2d"), looks := true }, kinds := [], alts := [], laidByText := true, laidKinds := [.data, .data, .data, .sentinel, .sentinel], laidTests := true, laidLooks := .later }
def HexParsesUptoCardSaid : Prop := Claim7.holds Tryd.pinned (.plain (OpenSpec.upto hexParsesSpec)) hexParsesUptoCard

/-- THE SECOND FORM's CARD OF 'gimballaw08.HexNear'. -/
def hexNearUptoCard : Claim7 := { stood := { row := hexNearUptoRow, standIns := [], harness := (true, "88bb4d0454be880a50e26ae4016dee63b7b9867b38e9ed8a25d6fbd7aeb2de2d"), looks := true }, kinds := [], alts := [], laidByText := true, laidKinds := [.data, .data, .data, .data, .sentinel, .sentinel, .pinned, .pinned], laidTests := true, laidLooks := .later }
def HexNearUptoCardSaid : Prop := Claim7.holds Tryd.pinned (.plain (OpenSpec.upto hexNearSpec)) hexNearUptoCard

/-- THE SECOND FORM's CARD OF 'gimballaw08.HexRows'. -/
def hexRowsUptoCard : Claim7 := { stood := { row := hexRowsUptoRow, standIns := [], harness := (true, "88bb4d0454be880a50e26ae4016dee63b7b9867b38e9ed8a25d6fbd7aeb2de2d"), looks := true }, kinds := [], alts := [], laidByText := true, laidKinds := [.data, .data, .data, .sentinel, .sentinel], laidTests := true, laidLooks := .later }
def HexRowsUptoCardSaid : Prop := Claim7.holds Tryd.pinned (.plain (OpenSpec.upto hexRowsSpec)) hexRowsUptoCard

/-- THE SECOND FORM's CARD OF 'gimballaw08.HexMatrices'. -/
def hexMatricesUptoCard : Claim7 := { stood := { row := hexMatricesUptoRow, standIns := [], harness := (true, "88bb4d0454be880a50e26ae4016dee63b7b9867b38e9ed8a25d6fbd7aeb2de2d"), looks := true }, kinds := [], alts := [], laidByText := true, laidKinds := [.data, .data, .data, .sentinel, .sentinel], laidTests := true, laidLooks := .later }
def HexMatricesUptoCardSaid : Prop := Claim7.holds Tryd.pinned (.plain (OpenSpec.upto hexMatricesSpec)) hexMatricesUptoCard

/-- THE SECOND FORM's CARD OF 'gimballaw08.HexSigns'. -/
def hexSignsUptoCard : Claim7 := { stood := { row := hexSignsUptoRow, standIns := [], harness := (true, "88bb4d0454be880a50e26ae4016dee63b7b9867b38e9ed8a25d6fbd7aeb2de2d"), looks := true }, kinds := [], alts := [], laidByText := true, laidKinds := [.data, .data, .data], laidTests := true, laidLooks := .later }
def HexSignsUptoCardSaid : Prop := Claim7.holds Tryd.pinned (.plain (OpenSpec.upto hexSignsSpec)) hexSignsUptoCard
end Rows
end Go.Proofs.YtaamonmkfgonmaaDoor
