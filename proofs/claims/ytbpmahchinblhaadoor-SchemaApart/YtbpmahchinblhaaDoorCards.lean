/-
  DERIVED. GIVEN WITH THE SEED: THE CARDS: each row of YtbpmahchinblhaaDoorRows.lean that lists a variable, with what it lists TIED to the program's text (the seventh form; the later family's looks); each row that meets fmt, with fmt's text TOLD by the authors' own Lean function (tested against real Go, not proved from fmt's source: count such statements apart). THE CARD IS WHAT COUNTS. Prove the row's statement (the work); the ties are given (YtbpmahchinblhaaDoorTie.lean); close each card by the builder's one call (the guide's Derived/Test/ToyasCard.lean, 'card_holds'). Laid BY PROGRAM, IN A SANDBOX (cutbox-door.mjs). By AI agents, Wed Nov 11 2026. No macro, syntax, notation, axiom, sorry.
-/
import Derived.Test.YtbpmahchinblhaaDoorRows
import GoSem.ClaimSeven
namespace Go.Proofs.YtbpmahchinblhaaDoor
namespace Rows

/-- THE TIED CARD OF 'musterlaw06.SchemaApart'. -/
def schemaApartCard : Claim7 := { stood := { row := schemaApartRow, standIns := [], harness := (true, "d099144e9ce5d798c47aa2d4c9c1126a4ee75436e6d7b09f606a5cb7e7c05faa"), looks := true }, kinds := [], alts := [], laidByText := true, laidKinds := [.data, .data, .pinned], laidTests := true, laidLooks := .later }
def SchemaApartCardSaid : Prop := Claim7.holds Tryd.pinned (.plain (OpenSpec.ofChange schemaApartSpec)) schemaApartCard

/-- THE SECOND FORM's CARD OF 'musterlaw06.SchemaApart'. -/
def schemaApartUptoCard : Claim7 := { stood := { row := schemaApartUptoRow, standIns := [], harness := (true, "d099144e9ce5d798c47aa2d4c9c1126a4ee75436e6d7b09f606a5cb7e7c05faa"), looks := true }, kinds := [], alts := [], laidByText := true, laidKinds := [.data, .data, .pinned], laidTests := true, laidLooks := .later }
def SchemaApartUptoCardSaid : Prop := Claim7.holds Tryd.pinned (.plain (OpenSpec.upto schemaApartSpec)) schemaApartUptoCard
end Rows
end Go.Proofs.YtbpmahchinblhaaDoor
