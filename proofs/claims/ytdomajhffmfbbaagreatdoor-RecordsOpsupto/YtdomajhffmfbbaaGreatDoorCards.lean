/-
  DERIVED. GIVEN WITH THE SEED: THE CARDS: each row of YtdomajhffmfbbaaGreatDoorRows.lean that lists a variable, with what it lists TIED to the program's text (the seventh form; the later family's looks); each row that meets fmt, with fmt's text TOLD by the authors' own Lean function (tested against real Go, not proved from fmt's source: count such statements apart). THE CARD IS WHAT COUNTS. Prove the row's statement (the work); the ties are given (YtdomajhffmfbbaaGreatDoorTie.lean); close each card by the builder's one call (the guide's Derived/Test/ToyasCard.lean, 'card_holds'). Laid BY PROGRAM, IN A SANDBOX (cutbox-door.mjs). By AI agents, Wed Nov 11 2026. No macro, syntax, notation, axiom, sorry.
-/
import Derived.Test.YtdomajhffmfbbaaGreatDoorRows
import GoSem.ClaimSeven
namespace Go.Proofs.YtdomajhffmfbbaaGreatDoor
namespace Rows

/-- THE TIED CARD OF 'musterlaw09.RecordsFixes'. -/
def recordsFixesCard : Claim7 := { stood := { row := recordsFixesRow, standIns := [], harness := (true, "c412a0031d69f96a010385b1bf43fb2f29011e4a2c1af355157802e8e4bfebd6"), looks := true }, kinds := [], alts := [], laidByText := true, laidKinds := [.data, .data, .data, .data, .sentinel, .sentinel, .pinned], laidTests := true, laidLooks := .later }
def RecordsFixesCardSaid : Prop := Claim7.holds Tryz.pinned (.plain (OpenSpec.ofChange recordsFixesSpec)) recordsFixesCard

/-- THE TIED CARD OF 'musterlaw09.RecordsOps'. -/
def recordsOpsCard : Claim7 := { stood := { row := recordsOpsRow, standIns := [], harness := (true, "c412a0031d69f96a010385b1bf43fb2f29011e4a2c1af355157802e8e4bfebd6"), looks := true }, kinds := [], alts := [], laidByText := true, laidKinds := [.data, .data, .data, .data, .sentinel, .sentinel, .pinned], laidTests := true, laidLooks := .later }
def RecordsOpsCardSaid : Prop := Claim7.holds Tryz.pinned (.plain (OpenSpec.ofChange recordsOpsSpec)) recordsOpsCard

/-- THE SECOND FORM's CARD OF 'musterlaw09.RecordsFixes'. -/
def recordsFixesUptoCard : Claim7 := { stood := { row := recordsFixesUptoRow, standIns := [], harness := (true, "c412a0031d69f96a010385b1bf43fb2f29011e4a2c1af355157802e8e4bfebd6"), looks := true }, kinds := [], alts := [], laidByText := true, laidKinds := [.data, .data, .data, .data, .sentinel, .sentinel, .pinned], laidTests := true, laidLooks := .later }
def RecordsFixesUptoCardSaid : Prop := Claim7.holds Tryz.pinned (.plain (OpenSpec.upto recordsFixesSpec)) recordsFixesUptoCard

/-- THE SECOND FORM's CARD OF 'musterlaw09.RecordsOps'. -/
def recordsOpsUptoCard : Claim7 := { stood := { row := recordsOpsUptoRow, standIns := [], harness := (true, "c412a0031d69f96a010385b1bf43fb2f29011e4a2c1af355157802e8e4bfebd6"), looks := true }, kinds := [], alts := [], laidByText := true, laidKinds := [.data, .data, .data, .data, .sentinel, .sentinel, .pinned], laidTests := true, laidLooks := .later }
def RecordsOpsUptoCardSaid : Prop := Claim7.holds Tryz.pinned (.plain (OpenSpec.upto recordsOpsSpec)) recordsOpsUptoCard
end Rows
end Go.Proofs.YtdomajhffmfbbaaGreatDoor
