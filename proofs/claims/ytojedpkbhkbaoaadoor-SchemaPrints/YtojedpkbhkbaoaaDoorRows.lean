/-
  NARROWER THAN 'FOR EVERY INPUT', by the rows' own cells (each row's printed sentence says how): SchemaNames: laid · SchemaPrints: laid · SchemaJoins: laid · SchemaApart: laid.
  DERIVED. THE GIVEN ROWS OF THIS SEAT. 4 by the template 'for every input the law returns true; each argument reads behind the call as it read before'; 0 by the template 'total and deterministic' (their statements: YtojedpkbhkbaoaaDoorTotals.lean).
  GIVEN WITH THE SEED: the statements are not yours to turn. If you find one false, say at which input.
  Laid BY PROGRAM, IN A SANDBOX (cutbox-rows.mjs): the forced cells as the released guide's own fill.sh prints them over the translation 222cb82de45a649e… (all of the seat's roots in one cut). By AI agents, Wed Nov 11 2026. No macro, syntax, notation, axiom, sorry.
-/
import Derived.Test.YtojedpkbhkbaoaaDoorChecked
import GoSem.PinnedTables
import GoSem.Claim
import GoSem.ClaimJoined
import GoSem.ClaimMapViews
import Derived.JoinedTies
import Derived.KernelRfl
namespace Go.Proofs.YtojedpkbhkbaoaaDoor
/- THE CELL 'sum', in the pinned program and in every row, IS THE sha256 OF THE DUMP (.gsa) THAT YtojedpkbhkbaoaaDoorProg.lean LOADS. Nothing in Lean hashes anything: it is a label: what it is worth is what the hold of that sum in a sandbox is worth. -/
noncomputable def Tryd.pinned : Pinned := { name := "ytojedpkbhkbaoaadoor", sum := "222cb82de45a649e9a9b2f1c3000a1b246b771af086247186b745091964bf868", checked := Tryd.checked }
namespace Rows
def none {H : Type} : Left H := { results := [], args := [] }

/- WHAT THE LISTED PACKAGE-LEVEL VARIABLES READ AS WHEN THE CALL BEGINS. Each datum BY PROGRAM (the guide's laid-datum.mjs) off the statement by which the dump's own 'gosem.cut.vars' lays the variable. In a bare row this is a premise. The card (YtojedpkbhkbaoaaDoorCards.lean) ties it to the program's text. -/
def laid_unicode_utf8_acceptRanges {H : Type} : DataW H := .agg [.agg [.lit (.int .u8 128), .lit (.int .u8 191)], .agg [.lit (.int .u8 160), .lit (.int .u8 191)], .agg [.lit (.int .u8 128), .lit (.int .u8 159)], .agg [.lit (.int .u8 144), .lit (.int .u8 191)], .agg [.lit (.int .u8 128), .lit (.int .u8 143)], .agg [.lit (.int .u8 0), .lit (.int .u8 0)], .agg [.lit (.int .u8 0), .lit (.int .u8 0)], .agg [.lit (.int .u8 0), .lit (.int .u8 0)], .agg [.lit (.int .u8 0), .lit (.int .u8 0)], .agg [.lit (.int .u8 0), .lit (.int .u8 0)], .agg [.lit (.int .u8 0), .lit (.int .u8 0)], .agg [.lit (.int .u8 0), .lit (.int .u8 0)], .agg [.lit (.int .u8 0), .lit (.int .u8 0)], .agg [.lit (.int .u8 0), .lit (.int .u8 0)], .agg [.lit (.int .u8 0), .lit (.int .u8 0)], .agg [.lit (.int .u8 0), .lit (.int .u8 0)]]
def laid_muster_schema_kindWords {H : Type} : DataW H := .agg [.agg [.lit (.int .i64 1), .lit (.string [116, 101, 120, 116])], .agg [.lit (.int .i64 2), .lit (.string [110, 117, 109])], .agg [.lit (.int .i64 3), .lit (.string [108, 105, 115, 116])]]
/-- One of Go's own tables, pinned by name: the form's constant. -/
def laid_unicode_utf8_first : DataW Unit := Go.Pinned.utf8First

/-- 'musterlaw06.SchemaNames': WHATEVER THE INPUT: true; the input reads as it did. -/
def schemaNamesSpec : ChangeSpec := { name := "schemaNames", fn := fun _ => fun
  | [] => { results := [.lit (.bool true)], args := [] }
  | _ => none }
def schemaNamesRow : OpenClaim := { program := "ytojedpkbhkbaoaadoor", sum := "222cb82de45a649e9a9b2f1c3000a1b246b771af086247186b745091964bf868", func := "muster/musterlaw06.SchemaNames", spec := "schemaNames", inPlace := ["internal/bytealg.CountString", "internal/bytealg.IndexByteString", "internal/bytealg.IndexString", "internal/abi.NoEscape", "internal/bytealg.MakeNoZero"], unfollowed := true, recurses := true, named := ["unicode/utf8.first", "unicode/utf8.acceptRanges", "internal/bytealg.MaxLen", "muster/schema.kindWords"], apart := false, laid := [("unicode/utf8.acceptRanges", laid_unicode_utf8_acceptRanges), ("muster/schema.kindWords", laid_muster_schema_kindWords), ("unicode/utf8.first", laid_unicode_utf8_first)] }
def SchemaNamesSaid : Prop := schemaNamesRow.holds Tryd.pinned (OpenSpec.ofChange schemaNamesSpec)

/-- ITS FALSE NEIGHBOUR: 'it returns false'. Refute it at one input. -/
def schemaNamesWrong : ChangeSpec := { name := "schemaNames", fn := fun _ => fun
  | [] => { results := [.lit (.bool false)], args := [] }
  | _ => none }
def SchemaNamesWrongFalsely : Prop := schemaNamesRow.holds Tryd.pinned (OpenSpec.ofChange schemaNamesWrong)

/-- 'musterlaw06.SchemaPrints': WHATEVER THE INPUT: true; the input reads as it did. -/
def schemaPrintsSpec : ChangeSpec := { name := "schemaPrints", fn := fun _ => fun
  | [d] => { results := [.lit (.bool true)], args := [d] }
  | _ => none }
def schemaPrintsRow : OpenClaim := { program := "ytojedpkbhkbaoaadoor", sum := "222cb82de45a649e9a9b2f1c3000a1b246b771af086247186b745091964bf868", func := "muster/musterlaw06.SchemaPrints", spec := "schemaPrints", inPlace := ["internal/bytealg.CountString", "internal/bytealg.IndexByteString", "internal/bytealg.IndexString", "internal/abi.NoEscape", "internal/bytealg.MakeNoZero"], unfollowed := true, recurses := true, named := ["unicode/utf8.first", "unicode/utf8.acceptRanges", "internal/bytealg.MaxLen", "muster/schema.kindWords"], apart := false, laid := [("unicode/utf8.acceptRanges", laid_unicode_utf8_acceptRanges), ("muster/schema.kindWords", laid_muster_schema_kindWords), ("unicode/utf8.first", laid_unicode_utf8_first)] }
def SchemaPrintsSaid : Prop := schemaPrintsRow.holds Tryd.pinned (OpenSpec.ofChange schemaPrintsSpec)

/-- ITS FALSE NEIGHBOUR: 'it returns false'. Refute it at one input. -/
def schemaPrintsWrong : ChangeSpec := { name := "schemaPrints", fn := fun _ => fun
  | [d] => { results := [.lit (.bool false)], args := [d] }
  | _ => none }
def SchemaPrintsWrongFalsely : Prop := schemaPrintsRow.holds Tryd.pinned (OpenSpec.ofChange schemaPrintsWrong)

/-- 'musterlaw06.SchemaJoins': WHATEVER THE INPUT: true; the input reads as it did. -/
def schemaJoinsSpec : ChangeSpec := { name := "schemaJoins", fn := fun _ => fun
  | [d1, d2] => { results := [.lit (.bool true)], args := [d1, d2] }
  | _ => none }
def schemaJoinsRow : OpenClaim := { program := "ytojedpkbhkbaoaadoor", sum := "222cb82de45a649e9a9b2f1c3000a1b246b771af086247186b745091964bf868", func := "muster/musterlaw06.SchemaJoins", spec := "schemaJoins", inPlace := ["internal/bytealg.CountString", "internal/bytealg.IndexByteString", "internal/bytealg.IndexString", "internal/abi.NoEscape", "internal/bytealg.MakeNoZero"], unfollowed := true, recurses := true, named := ["unicode/utf8.first", "unicode/utf8.acceptRanges", "internal/bytealg.MaxLen", "muster/schema.kindWords"], apart := false, laid := [("unicode/utf8.acceptRanges", laid_unicode_utf8_acceptRanges), ("muster/schema.kindWords", laid_muster_schema_kindWords), ("unicode/utf8.first", laid_unicode_utf8_first)] }
def SchemaJoinsSaid : Prop := schemaJoinsRow.holds Tryd.pinned (OpenSpec.ofChange schemaJoinsSpec)

/-- ITS FALSE NEIGHBOUR: 'it returns false'. Refute it at one input. -/
def schemaJoinsWrong : ChangeSpec := { name := "schemaJoins", fn := fun _ => fun
  | [d1, d2] => { results := [.lit (.bool false)], args := [d1, d2] }
  | _ => none }
def SchemaJoinsWrongFalsely : Prop := schemaJoinsRow.holds Tryd.pinned (OpenSpec.ofChange schemaJoinsWrong)

/-- 'musterlaw06.SchemaApart': WHATEVER THE INPUT: true; the input reads as it did. -/
def schemaApartSpec : ChangeSpec := { name := "schemaApart", fn := fun _ => fun
  | [d] => { results := [.lit (.bool true)], args := [d] }
  | _ => none }
def schemaApartRow : OpenClaim := { program := "ytojedpkbhkbaoaadoor", sum := "222cb82de45a649e9a9b2f1c3000a1b246b771af086247186b745091964bf868", func := "muster/musterlaw06.SchemaApart", spec := "schemaApart", inPlace := ["internal/bytealg.CountString", "internal/bytealg.IndexByteString", "internal/bytealg.IndexString", "internal/abi.NoEscape", "internal/bytealg.MakeNoZero"], unfollowed := true, recurses := true, named := ["unicode/utf8.first", "unicode/utf8.acceptRanges", "internal/bytealg.MaxLen", "muster/schema.kindWords"], apart := false, laid := [("unicode/utf8.acceptRanges", laid_unicode_utf8_acceptRanges), ("muster/schema.kindWords", laid_muster_schema_kindWords), ("unicode/utf8.first", laid_unicode_utf8_first)] }
def SchemaApartSaid : Prop := schemaApartRow.holds Tryd.pinned (OpenSpec.ofChange schemaApartSpec)

/-- ITS FALSE NEIGHBOUR: 'it returns false'. Refute it at one input. -/
def schemaApartWrong : ChangeSpec := { name := "schemaApart", fn := fun _ => fun
  | [d] => { results := [.lit (.bool false)], args := [d] }
  | _ => none }
def SchemaApartWrongFalsely : Prop := schemaApartRow.holds Tryd.pinned (OpenSpec.ofChange schemaApartWrong)

/- THE SECOND FORM. 'bulk': how many values and letters a reading holds, each counted each time it is reached (what is shared counts as often as it is met; a slice's spare places count too). A statement '..UptoSaid' is the law's where the arguments, and the package variables that the reading takes, are together of bulk at most 1048576: NARROWER than '..Said'. Prove '..Said' where nothing that the law and all that it calls make is longer than what came in: it says more and counts as full. Else prove '..UptoSaid'. A law counts once. -/
mutual
def uptoBulk {H : Type} : DataW H → Nat
  | .lit (.string bytes) => bytes.length + 1
  | .lit _ => 1
  | .nil => 1
  | .ptr d => uptoBulk d + 1
  | .slice elems spare => uptoBulkAll elems + uptoBulkAll spare + 1
  | .agg parts => uptoBulkAll parts + 1
  | .iface _ d => uptoBulk d + 1
  | .map entries => uptoBulkEntries entries + 1
  | .held _ => 1
def uptoBulkAll {H : Type} : List (DataW H) → Nat
  | [] => 0
  | d :: r => uptoBulk d + uptoBulkAll r
def uptoBulkEntries {H : Type} : List (Lit × DataW H) → Nat
  | [] => 0
  | x :: r => uptoBulkEntry x + uptoBulkEntries r
def uptoBulkEntry {H : Type} : Lit × DataW H → Nat
  | (.string bytes, d) => bytes.length + uptoBulk d + 1
  | (_, d) => uptoBulk d + 1
 end
def uptoSmall : (H : Type) → List (DataW H) → Bool := fun _ ds => decide (uptoBulkAll ds ≤ 1048576)
def OpenSpec.upto (s : _root_.Go.ChangeSpec) : _root_.Go.OpenSpec := { _root_.Go.OpenSpec.ofChange s with cond := some uptoSmall }

/-- 'musterlaw06.SchemaNames', WHERE WHAT IT READS IS OF BULK AT MOST 1048576: true; the input reads as it did. -/
def schemaNamesUptoRow : OpenClaim := { program := "ytojedpkbhkbaoaadoor", sum := "222cb82de45a649e9a9b2f1c3000a1b246b771af086247186b745091964bf868", func := "muster/musterlaw06.SchemaNames", spec := "schemaNames", inPlace := ["internal/bytealg.CountString", "internal/bytealg.IndexByteString", "internal/bytealg.IndexString", "internal/abi.NoEscape", "internal/bytealg.MakeNoZero"], unfollowed := true, recurses := true, named := ["unicode/utf8.first", "unicode/utf8.acceptRanges", "internal/bytealg.MaxLen", "muster/schema.kindWords"], apart := false, laid := [("unicode/utf8.acceptRanges", laid_unicode_utf8_acceptRanges), ("muster/schema.kindWords", laid_muster_schema_kindWords), ("unicode/utf8.first", laid_unicode_utf8_first)], narrowed := true }
def SchemaNamesUptoSaid : Prop := schemaNamesUptoRow.holds Tryd.pinned (OpenSpec.upto schemaNamesSpec)

/-- 'musterlaw06.SchemaPrints', WHERE WHAT IT READS IS OF BULK AT MOST 1048576: true; the input reads as it did. -/
def schemaPrintsUptoRow : OpenClaim := { program := "ytojedpkbhkbaoaadoor", sum := "222cb82de45a649e9a9b2f1c3000a1b246b771af086247186b745091964bf868", func := "muster/musterlaw06.SchemaPrints", spec := "schemaPrints", inPlace := ["internal/bytealg.CountString", "internal/bytealg.IndexByteString", "internal/bytealg.IndexString", "internal/abi.NoEscape", "internal/bytealg.MakeNoZero"], unfollowed := true, recurses := true, named := ["unicode/utf8.first", "unicode/utf8.acceptRanges", "internal/bytealg.MaxLen", "muster/schema.kindWords"], apart := false, laid := [("unicode/utf8.acceptRanges", laid_unicode_utf8_acceptRanges), ("muster/schema.kindWords", laid_muster_schema_kindWords), ("unicode/utf8.first", laid_unicode_utf8_first)], narrowed := true }
def SchemaPrintsUptoSaid : Prop := schemaPrintsUptoRow.holds Tryd.pinned (OpenSpec.upto schemaPrintsSpec)

/-- 'musterlaw06.SchemaJoins', WHERE WHAT IT READS IS OF BULK AT MOST 1048576: true; the input reads as it did. -/
def schemaJoinsUptoRow : OpenClaim := { program := "ytojedpkbhkbaoaadoor", sum := "222cb82de45a649e9a9b2f1c3000a1b246b771af086247186b745091964bf868", func := "muster/musterlaw06.SchemaJoins", spec := "schemaJoins", inPlace := ["internal/bytealg.CountString", "internal/bytealg.IndexByteString", "internal/bytealg.IndexString", "internal/abi.NoEscape", "internal/bytealg.MakeNoZero"], unfollowed := true, recurses := true, named := ["unicode/utf8.first", "unicode/utf8.acceptRanges", "internal/bytealg.MaxLen", "muster/schema.kindWords"], apart := false, laid := [("unicode/utf8.acceptRanges", laid_unicode_utf8_acceptRanges), ("muster/schema.kindWords", laid_muster_schema_kindWords), ("unicode/utf8.first", laid_unicode_utf8_first)], narrowed := true }
def SchemaJoinsUptoSaid : Prop := schemaJoinsUptoRow.holds Tryd.pinned (OpenSpec.upto schemaJoinsSpec)

/-- 'musterlaw06.SchemaApart', WHERE WHAT IT READS IS OF BULK AT MOST 1048576: true; the input reads as it did. -/
def schemaApartUptoRow : OpenClaim := { program := "ytojedpkbhkbaoaadoor", sum := "222cb82de45a649e9a9b2f1c3000a1b246b771af086247186b745091964bf868", func := "muster/musterlaw06.SchemaApart", spec := "schemaApart", inPlace := ["internal/bytealg.CountString", "internal/bytealg.IndexByteString", "internal/bytealg.IndexString", "internal/abi.NoEscape", "internal/bytealg.MakeNoZero"], unfollowed := true, recurses := true, named := ["unicode/utf8.first", "unicode/utf8.acceptRanges", "internal/bytealg.MaxLen", "muster/schema.kindWords"], apart := false, laid := [("unicode/utf8.acceptRanges", laid_unicode_utf8_acceptRanges), ("muster/schema.kindWords", laid_muster_schema_kindWords), ("unicode/utf8.first", laid_unicode_utf8_first)], narrowed := true }
def SchemaApartUptoSaid : Prop := schemaApartUptoRow.holds Tryd.pinned (OpenSpec.upto schemaApartSpec)

end Rows
end Go.Proofs.YtojedpkbhkbaoaaDoor
