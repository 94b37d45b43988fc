/-
  DERIVED. GIVEN WITH THE SEED: THE CARDS: each row of YtgjcchafmcccjaaDoorRows.lean that lists a variable, with what it lists TIED to the program's text (the seventh form; the later family's looks); each row that meets fmt, with fmt's text TOLD by the authors' own Lean function (tested against real Go, not proved from fmt's source: count such statements apart). THE CARD IS WHAT COUNTS. Prove the row's statement (the work); the ties are given (YtgjcchafmcccjaaDoorTie.lean); close each card by the builder's one call (the guide's Derived/Test/ToyasCard.lean, 'card_holds'). Laid BY PROGRAM, IN A SANDBOX (cutbox-door.mjs). By AI agents, Wed Nov 11 2026. No macro, syntax, notation, axiom, sorry.
-/
import Derived.Test.YtgjcchafmcccjaaDoorRows
import GoSem.ClaimSeven
namespace Go.Proofs.YtgjcchafmcccjaaDoor
namespace Rows

/-- THE TIED CARD OF 'musterlaw06.SchemaApart'. -/
def schemaApartCard : Claim7 := { stood := { row := schemaApartRow, standIns := [], harness := (true, "3150d6f9878974ac7da8e466a1cda7b6277b6090fe1433646c0135a7cc4015f5"), looks := true }, kinds := [], alts := [], laidByText := true, laidKinds := [.data, .data, .pinned], laidTests := true, laidLooks := .later }
def SchemaApartCardSaid : Prop := Claim7.holds Tryd.pinned (.plain (OpenSpec.ofChange schemaApartSpec)) schemaApartCard

/-- THE TIED CARD OF 'musterlaw09.RecordsNormal'. -/
def recordsNormalCard : Claim7 := { stood := { row := recordsNormalRow, standIns := [], harness := (true, "3150d6f9878974ac7da8e466a1cda7b6277b6090fe1433646c0135a7cc4015f5"), looks := true }, kinds := [], alts := [], laidByText := true, laidKinds := [.data, .data, .data, .data, .sentinel, .sentinel, .pinned], laidTests := true, laidLooks := .later }
def RecordsNormalCardSaid : Prop := Claim7.holds Tryd.pinned (.plain (OpenSpec.ofChange recordsNormalSpec)) recordsNormalCard

/-- THE TIED CARD OF 'musterlaw09.RecordsRows'. -/
def recordsRowsCard : Claim7 := { stood := { row := recordsRowsRow, standIns := [], harness := (true, "3150d6f9878974ac7da8e466a1cda7b6277b6090fe1433646c0135a7cc4015f5"), looks := true }, kinds := [], alts := [], laidByText := true, laidKinds := [.data, .data, .data, .data, .sentinel, .sentinel, .pinned], laidTests := true, laidLooks := .later }
def RecordsRowsCardSaid : Prop := Claim7.holds Tryd.pinned (.plain (OpenSpec.ofChange recordsRowsSpec)) recordsRowsCard

/-- THE SECOND FORM's CARD OF 'musterlaw06.SchemaApart'. -/
def schemaApartUptoCard : Claim7 := { stood := { row := schemaApartUptoRow, standIns := [], harness := (true, "3150d6f9878974ac7da8e466a1cda7b6277b6090fe1433646c0135a7cc4015f5"), looks := true }, kinds := [], alts := [], laidByText := true, laidKinds := [.data, .data, .pinned], laidTests := true, laidLooks := .later }
def SchemaApartUptoCardSaid : Prop := Claim7.holds Tryd.pinned (.plain (OpenSpec.upto schemaApartSpec)) schemaApartUptoCard

/-- THE SECOND FORM's CARD OF 'musterlaw09.RecordsNormal'. -/
def recordsNormalUptoCard : Claim7 := { stood := { row := recordsNormalUptoRow, standIns := [], harness := (true, "3150d6f9878974ac7da8e466a1cda7b6277b6090fe1433646c0135a7cc4015f5"), looks := true }, kinds := [], alts := [], laidByText := true, laidKinds := [.data, .data, .data, .data, .sentinel, .sentinel, .pinned], laidTests := true, laidLooks := .later }
def RecordsNormalUptoCardSaid : Prop := Claim7.holds Tryd.pinned (.plain (OpenSpec.upto recordsNormalSpec)) recordsNormalUptoCard

/-- THE SECOND FORM's CARD OF 'musterlaw09.RecordsRows'. -/
def recordsRowsUptoCard : Claim7 := { stood := { row := recordsRowsUptoRow, standIns := [], harness := (true, "3150d6f9878974ac7da8e466a1cda7b6277b6090fe1433646c0135a7cc4015f5"), looks := true }, kinds := [], alts := [], laidByText := true, laidKinds := [.data, .data, .data, .data, .sentinel, .sentinel, .pinned], laidTests := true, laidLooks := .later }
def RecordsRowsUptoCardSaid : Prop := Claim7.holds Tryd.pinned (.plain (OpenSpec.upto recordsRowsSpec)) recordsRowsUptoCard
end Rows
end Go.Proofs.YtgjcchafmcccjaaDoor
