/-
  DERIVED. GIVEN WITH THE SEED: THE CARDS: each row of YtdomajhffmfbbaaDoorRows.lean that lists a variable, with what it lists TIED to the program's text (the seventh form; the later family's looks); each row that meets fmt, with fmt's text TOLD by the authors' own Lean function (tested against real Go, not proved from fmt's source: count such statements apart). THE CARD IS WHAT COUNTS. Prove the row's statement (the work); the ties are given (YtdomajhffmfbbaaDoorTie.lean); close each card by the builder's one call (the guide's Derived/Test/ToyasCard.lean, 'card_holds'). Laid BY PROGRAM, IN A SANDBOX (cutbox-door.mjs). By AI agents, Wed Nov 11 2026. No macro, syntax, notation, axiom, sorry.
-/
import Derived.Test.YtdomajhffmfbbaaDoorRows
import GoSem.ClaimSeven
namespace Go.Proofs.YtdomajhffmfbbaaDoor
namespace Rows

/-- THE TIED CARD OF 'musterlaw09.RecordsNames'. -/
def recordsNamesCard : Claim7 := { stood := { row := recordsNamesRow, standIns := [], harness := (true, "7d53437f8e9194003bf138420d3c468fac579bf989a2e1b752298cd6fb1e1075"), looks := true }, kinds := [], alts := [], laidByText := true, laidKinds := [.data, .data, .data, .data, .sentinel, .sentinel, .pinned], laidTests := true, laidLooks := .later }
def RecordsNamesCardSaid : Prop := Claim7.holds Tryd.pinned (.plain (OpenSpec.ofChange recordsNamesSpec)) recordsNamesCard

/-- THE TIED CARD OF 'musterlaw09.RecordsLabels'. -/
def recordsLabelsCard : Claim7 := { stood := { row := recordsLabelsRow, standIns := [], harness := (true, "7d53437f8e9194003bf138420d3c468fac579bf989a2e1b752298cd6fb1e1075"), looks := true }, kinds := [], alts := [], laidByText := true, laidKinds := [.data, .data, .data, .data, .sentinel, .sentinel, .pinned], laidTests := true, laidLooks := .later }
def RecordsLabelsCardSaid : Prop := Claim7.holds Tryd.pinned (.plain (OpenSpec.ofChange recordsLabelsSpec)) recordsLabelsCard

/-- THE TIED CARD OF 'musterlaw09.RecordsNormal'. -/
def recordsNormalCard : Claim7 := { stood := { row := recordsNormalRow, standIns := [], harness := (true, "7d53437f8e9194003bf138420d3c468fac579bf989a2e1b752298cd6fb1e1075"), looks := true }, kinds := [], alts := [], laidByText := true, laidKinds := [.data, .data, .data, .data, .sentinel, .sentinel, .pinned], laidTests := true, laidLooks := .later }
def RecordsNormalCardSaid : Prop := Claim7.holds Tryd.pinned (.plain (OpenSpec.ofChange recordsNormalSpec)) recordsNormalCard

/-- THE TIED CARD OF 'musterlaw09.RecordsSchema'. -/
def recordsSchemaCard : Claim7 := { stood := { row := recordsSchemaRow, standIns := [], harness := (true, "7d53437f8e9194003bf138420d3c468fac579bf989a2e1b752298cd6fb1e1075"), looks := true }, kinds := [], alts := [], laidByText := true, laidKinds := [.data, .data, .pinned], laidTests := true, laidLooks := .later }
def RecordsSchemaCardSaid : Prop := Claim7.holds Tryd.pinned (.plain (OpenSpec.ofChange recordsSchemaSpec)) recordsSchemaCard

/-- THE SECOND FORM's CARD OF 'musterlaw09.RecordsNames'. -/
def recordsNamesUptoCard : Claim7 := { stood := { row := recordsNamesUptoRow, standIns := [], harness := (true, "7d53437f8e9194003bf138420d3c468fac579bf989a2e1b752298cd6fb1e1075"), looks := true }, kinds := [], alts := [], laidByText := true, laidKinds := [.data, .data, .data, .data, .sentinel, .sentinel, .pinned], laidTests := true, laidLooks := .later }
def RecordsNamesUptoCardSaid : Prop := Claim7.holds Tryd.pinned (.plain (OpenSpec.upto recordsNamesSpec)) recordsNamesUptoCard

/-- THE SECOND FORM's CARD OF 'musterlaw09.RecordsLabels'. -/
def recordsLabelsUptoCard : Claim7 := { stood := { row := recordsLabelsUptoRow, standIns := [], harness := (true, "7d53437f8e9194003bf138420d3c468fac579bf989a2e1b752298cd6fb1e1075"), looks := true }, kinds := [], alts := [], laidByText := true, laidKinds := [.data, .data, .data, .data, .sentinel, .sentinel, .pinned], laidTests := true, laidLooks := .later }
def RecordsLabelsUptoCardSaid : Prop := Claim7.holds Tryd.pinned (.plain (OpenSpec.upto recordsLabelsSpec)) recordsLabelsUptoCard

/-- THE SECOND FORM's CARD OF 'musterlaw09.RecordsNormal'. -/
def recordsNormalUptoCard : Claim7 := { stood := { row := recordsNormalUptoRow, standIns := [], harness := (true, "7d53437f8e9194003bf138420d3c468fac579bf989a2e1b752298cd6fb1e1075"), looks := true }, kinds := [], alts := [], laidByText := true, laidKinds := [.data, .data, .data, .data, .sentinel, .sentinel, .pinned], laidTests := true, laidLooks := .later }
def RecordsNormalUptoCardSaid : Prop := Claim7.holds Tryd.pinned (.plain (OpenSpec.upto recordsNormalSpec)) recordsNormalUptoCard

/-- THE SECOND FORM's CARD OF 'musterlaw09.RecordsSchema'. -/
def recordsSchemaUptoCard : Claim7 := { stood := { row := recordsSchemaUptoRow, standIns := [], harness := (true, "7d53437f8e9194003bf138420d3c468fac579bf989a2e1b752298cd6fb1e1075"), looks := true }, kinds := [], alts := [], laidByText := true, laidKinds := [.data, .data, .pinned], laidTests := true, laidLooks := .later }
def RecordsSchemaUptoCardSaid : Prop := Claim7.holds Tryd.pinned (.plain (OpenSpec.upto recordsSchemaSpec)) recordsSchemaUptoCard
end Rows
end Go.Proofs.YtdomajhffmfbbaaDoor
