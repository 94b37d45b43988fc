/-
  DERIVED. GIVEN WITH THE SEED: THE CARDS: each row of YtgjcchafmcccjaaGreatDoorRows.lean that lists a variable, with what it lists TIED to the program's text (the seventh form; the later family's looks); each row that meets fmt, with fmt's text TOLD by the authors' own Lean function (tested against real Go, not proved from fmt's source: count such statements apart). THE CARD IS WHAT COUNTS. Prove the row's statement (the work); the ties are given (YtgjcchafmcccjaaGreatDoorTie.lean); close each card by the builder's one call (the guide's Derived/Test/ToyasCard.lean, 'card_holds'). Laid BY PROGRAM, IN A SANDBOX (cutbox-door.mjs). By AI agents, Wed Nov 11 2026. No macro, syntax, notation, axiom, sorry.
-/
import Derived.Test.YtgjcchafmcccjaaGreatDoorRows
import GoSem.ClaimSeven
namespace Go.Proofs.YtgjcchafmcccjaaGreatDoor
namespace Rows

/-- THE TIED CARD OF 'musterlaw09.RecordsFit'. -/
def recordsFitCard : Claim7 := { stood := { row := recordsFitRow, standIns := [], harness := (true, "13b1b242a122b0deed075439285f4fbd93940c5aaf0ceafc02a2dcddde30a67f"), looks := true }, kinds := [], alts := [], laidByText := true, laidKinds := [.data, .data, .data, .data, .sentinel, .sentinel, .data, .pinned], laidTests := true, laidLooks := .later }
def RecordsFitCardSaid : Prop := Claim7.holds Tryz.pinned (.plain (OpenSpec.ofChange recordsFitSpec)) recordsFitCard

/-- THE SECOND FORM's CARD OF 'musterlaw09.RecordsFit'. -/
def recordsFitUptoCard : Claim7 := { stood := { row := recordsFitUptoRow, standIns := [], harness := (true, "13b1b242a122b0deed075439285f4fbd93940c5aaf0ceafc02a2dcddde30a67f"), looks := true }, kinds := [], alts := [], laidByText := true, laidKinds := [.data, .data, .data, .data, .sentinel, .sentinel, .data, .pinned], laidTests := true, laidLooks := .later }
def RecordsFitUptoCardSaid : Prop := Claim7.holds Tryz.pinned (.plain (OpenSpec.upto recordsFitSpec)) recordsFitUptoCard
end Rows
end Go.Proofs.YtgjcchafmcccjaaGreatDoor
