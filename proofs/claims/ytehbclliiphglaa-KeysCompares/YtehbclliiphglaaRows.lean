/-
  No cell of these rows narrows 'for every input' (looked for: loops, veiled, ifaces, maps, wideKeys, modest, calm, conditions, laid).
  DERIVED. THE GIVEN ROWS OF THIS SEAT. 6 by the template 'for every input the law returns true; each argument reads behind the call as it read before'; 0 by the template 'total and deterministic' (their statements: YtehbclliiphglaaTotals.lean).
  GIVEN WITH THE SEED: the statements are not yours to turn. If you find one false, say at which input.
  Laid BY PROGRAM, IN A SANDBOX (cutbox-rows.mjs): the forced cells as the released guide's own fill.sh prints them over the translation ec17ca61bf516f4f… (all of the seat's roots in one cut). By AI agents, Wed Nov 11 2026. No macro, syntax, notation, axiom, sorry.
-/
import Derived.Test.YtehbclliiphglaaChecked
import GoSem.Claim
import GoSem.ClaimJoined
import GoSem.ClaimMapViews
import Derived.JoinedTies
import Derived.KernelRfl
namespace Go.Proofs.Ytehbclliiphglaa
/- THE CELL 'sum', in the pinned program and in every row, IS THE sha256 OF THE DUMP (.gsa) THAT YtehbclliiphglaaProg.lean LOADS. Nothing in Lean hashes anything: it is a label: what it is worth is what the hold of that sum in a sandbox is worth. -/
noncomputable def Try.pinned : Pinned := { name := "ytehbclliiphglaa", sum := "ec17ca61bf516f4f6c6a83ed6715a8275fa9d60ccf64079349c148f1a1ddb20b", checked := Try.checked }
namespace Rows
def none {H : Type} : Left H := { results := [], args := [] }

/-- 'musterlaw01.KeysNames': WHATEVER THE INPUT: true; the input reads as it did. -/
def keysNamesSpec : ChangeSpec := { name := "keysNames", fn := fun _ => fun
  | [] => { results := [.lit (.bool true)], args := [] }
  | _ => none }
def keysNamesRow : OpenClaim := { program := "ytehbclliiphglaa", sum := "ec17ca61bf516f4f6c6a83ed6715a8275fa9d60ccf64079349c148f1a1ddb20b", func := "muster/musterlaw01.KeysNames", spec := "keysNames", apart := false }
def KeysNamesSaid : Prop := keysNamesRow.holds Try.pinned (OpenSpec.ofChange keysNamesSpec)

/-- ITS FALSE NEIGHBOUR: 'it returns false'. Refute it at one input. -/
def keysNamesWrong : ChangeSpec := { name := "keysNames", fn := fun _ => fun
  | [] => { results := [.lit (.bool false)], args := [] }
  | _ => none }
def KeysNamesWrongFalsely : Prop := keysNamesRow.holds Try.pinned (OpenSpec.ofChange keysNamesWrong)

/-- 'musterlaw01.KeysEncodes': WHATEVER THE INPUT: true; the input reads as it did. -/
def keysEncodesSpec : ChangeSpec := { name := "keysEncodes", fn := fun _ => fun
  | [d] => { results := [.lit (.bool true)], args := [d] }
  | _ => none }
def keysEncodesRow : OpenClaim := { program := "ytehbclliiphglaa", sum := "ec17ca61bf516f4f6c6a83ed6715a8275fa9d60ccf64079349c148f1a1ddb20b", func := "muster/musterlaw01.KeysEncodes", spec := "keysEncodes", apart := false }
def KeysEncodesSaid : Prop := keysEncodesRow.holds Try.pinned (OpenSpec.ofChange keysEncodesSpec)

/-- ITS FALSE NEIGHBOUR: 'it returns false'. Refute it at one input. -/
def keysEncodesWrong : ChangeSpec := { name := "keysEncodes", fn := fun _ => fun
  | [d] => { results := [.lit (.bool false)], args := [d] }
  | _ => none }
def KeysEncodesWrongFalsely : Prop := keysEncodesRow.holds Try.pinned (OpenSpec.ofChange keysEncodesWrong)

/-- 'musterlaw01.KeysBegins': WHATEVER THE INPUT: true; the input reads as it did. -/
def keysBeginsSpec : ChangeSpec := { name := "keysBegins", fn := fun _ => fun
  | [d] => { results := [.lit (.bool true)], args := [d] }
  | _ => none }
def keysBeginsRow : OpenClaim := { program := "ytehbclliiphglaa", sum := "ec17ca61bf516f4f6c6a83ed6715a8275fa9d60ccf64079349c148f1a1ddb20b", func := "muster/musterlaw01.KeysBegins", spec := "keysBegins", apart := false }
def KeysBeginsSaid : Prop := keysBeginsRow.holds Try.pinned (OpenSpec.ofChange keysBeginsSpec)

/-- ITS FALSE NEIGHBOUR: 'it returns false'. Refute it at one input. -/
def keysBeginsWrong : ChangeSpec := { name := "keysBegins", fn := fun _ => fun
  | [d] => { results := [.lit (.bool false)], args := [d] }
  | _ => none }
def KeysBeginsWrongFalsely : Prop := keysBeginsRow.holds Try.pinned (OpenSpec.ofChange keysBeginsWrong)

/-- 'musterlaw01.KeysDecodes': WHATEVER THE INPUT: true; the input reads as it did. -/
def keysDecodesSpec : ChangeSpec := { name := "keysDecodes", fn := fun _ => fun
  | [d] => { results := [.lit (.bool true)], args := [d] }
  | _ => none }
def keysDecodesRow : OpenClaim := { program := "ytehbclliiphglaa", sum := "ec17ca61bf516f4f6c6a83ed6715a8275fa9d60ccf64079349c148f1a1ddb20b", func := "muster/musterlaw01.KeysDecodes", spec := "keysDecodes", apart := false }
def KeysDecodesSaid : Prop := keysDecodesRow.holds Try.pinned (OpenSpec.ofChange keysDecodesSpec)

/-- ITS FALSE NEIGHBOUR: 'it returns false'. Refute it at one input. -/
def keysDecodesWrong : ChangeSpec := { name := "keysDecodes", fn := fun _ => fun
  | [d] => { results := [.lit (.bool false)], args := [d] }
  | _ => none }
def KeysDecodesWrongFalsely : Prop := keysDecodesRow.holds Try.pinned (OpenSpec.ofChange keysDecodesWrong)

/-- 'musterlaw01.KeysBack': WHATEVER THE INPUT: true; the input reads as it did. -/
def keysBackSpec : ChangeSpec := { name := "keysBack", fn := fun _ => fun
  | [d1, d2] => { results := [.lit (.bool true)], args := [d1, d2] }
  | _ => none }
def keysBackRow : OpenClaim := { program := "ytehbclliiphglaa", sum := "ec17ca61bf516f4f6c6a83ed6715a8275fa9d60ccf64079349c148f1a1ddb20b", func := "muster/musterlaw01.KeysBack", spec := "keysBack", apart := false }
def KeysBackSaid : Prop := keysBackRow.holds Try.pinned (OpenSpec.ofChange keysBackSpec)

/-- ITS FALSE NEIGHBOUR: 'it returns false'. Refute it at one input. -/
def keysBackWrong : ChangeSpec := { name := "keysBack", fn := fun _ => fun
  | [d1, d2] => { results := [.lit (.bool false)], args := [d1, d2] }
  | _ => none }
def KeysBackWrongFalsely : Prop := keysBackRow.holds Try.pinned (OpenSpec.ofChange keysBackWrong)

/-- 'musterlaw01.KeysCompares': WHATEVER THE INPUT: true; the input reads as it did. -/
def keysComparesSpec : ChangeSpec := { name := "keysCompares", fn := fun _ => fun
  | [d1, d2] => { results := [.lit (.bool true)], args := [d1, d2] }
  | _ => none }
def keysComparesRow : OpenClaim := { program := "ytehbclliiphglaa", sum := "ec17ca61bf516f4f6c6a83ed6715a8275fa9d60ccf64079349c148f1a1ddb20b", func := "muster/musterlaw01.KeysCompares", spec := "keysCompares", apart := false }
def KeysComparesSaid : Prop := keysComparesRow.holds Try.pinned (OpenSpec.ofChange keysComparesSpec)

/-- ITS FALSE NEIGHBOUR: 'it returns false'. Refute it at one input. -/
def keysComparesWrong : ChangeSpec := { name := "keysCompares", fn := fun _ => fun
  | [d1, d2] => { results := [.lit (.bool false)], args := [d1, d2] }
  | _ => none }
def KeysComparesWrongFalsely : Prop := keysComparesRow.holds Try.pinned (OpenSpec.ofChange keysComparesWrong)

/- THE SECOND FORM. 'bulk': how many values and letters a reading holds, each counted each time it is reached (what is shared counts as often as it is met; a slice's spare places count too). A statement '..UptoSaid' is the law's where the arguments, and the package variables that the reading takes, are together of bulk at most 1048576: NARROWER than '..Said'. Prove '..Said' where nothing that the law and all that it calls make is longer than what came in: it says more and counts as full. Else prove '..UptoSaid'. A law counts once. -/
mutual
def uptoBulk {H : Type} : DataW H → Nat
  | .lit (.string bytes) => bytes.length + 1
  | .lit _ => 1
  | .nil => 1
  | .ptr d => uptoBulk d + 1
  | .slice elems spare => uptoBulkAll elems + uptoBulkAll spare + 1
  | .agg parts => uptoBulkAll parts + 1
  | .iface _ d => uptoBulk d + 1
  | .map entries => uptoBulkEntries entries + 1
  | .held _ => 1
def uptoBulkAll {H : Type} : List (DataW H) → Nat
  | [] => 0
  | d :: r => uptoBulk d + uptoBulkAll r
def uptoBulkEntries {H : Type} : List (Lit × DataW H) → Nat
  | [] => 0
  | x :: r => uptoBulkEntry x + uptoBulkEntries r
def uptoBulkEntry {H : Type} : Lit × DataW H → Nat
  | (.string bytes, d) => bytes.length + uptoBulk d + 1
  | (_, d) => uptoBulk d + 1
 end
def uptoSmall : (H : Type) → List (DataW H) → Bool := fun _ ds => decide (uptoBulkAll ds ≤ 1048576)
def OpenSpec.upto (s : _root_.Go.ChangeSpec) : _root_.Go.OpenSpec := { _root_.Go.OpenSpec.ofChange s with cond := some uptoSmall }

/-- 'musterlaw01.KeysNames', WHERE WHAT IT READS IS OF BULK AT MOST 1048576: true; the input reads as it did. -/
def keysNamesUptoRow : OpenClaim := { program := "ytehbclliiphglaa", sum := "ec17ca61bf516f4f6c6a83ed6715a8275fa9d60ccf64079349c148f1a1ddb20b", func := "muster/musterlaw01.KeysNames", spec := "keysNames", apart := false, narrowed := true }
def KeysNamesUptoSaid : Prop := keysNamesUptoRow.holds Try.pinned (OpenSpec.upto keysNamesSpec)

/-- 'musterlaw01.KeysEncodes', WHERE WHAT IT READS IS OF BULK AT MOST 1048576: true; the input reads as it did. -/
def keysEncodesUptoRow : OpenClaim := { program := "ytehbclliiphglaa", sum := "ec17ca61bf516f4f6c6a83ed6715a8275fa9d60ccf64079349c148f1a1ddb20b", func := "muster/musterlaw01.KeysEncodes", spec := "keysEncodes", apart := false, narrowed := true }
def KeysEncodesUptoSaid : Prop := keysEncodesUptoRow.holds Try.pinned (OpenSpec.upto keysEncodesSpec)

/-- 'musterlaw01.KeysBegins', WHERE WHAT IT READS IS OF BULK AT MOST 1048576: true; the input reads as it did. -/
def keysBeginsUptoRow : OpenClaim := { program := "ytehbclliiphglaa", sum := "ec17ca61bf516f4f6c6a83ed6715a8275fa9d60ccf64079349c148f1a1ddb20b", func := "muster/musterlaw01.KeysBegins", spec := "keysBegins", apart := false, narrowed := true }
def KeysBeginsUptoSaid : Prop := keysBeginsUptoRow.holds Try.pinned (OpenSpec.upto keysBeginsSpec)

/-- 'musterlaw01.KeysDecodes', WHERE WHAT IT READS IS OF BULK AT MOST 1048576: true; the input reads as it did. -/
def keysDecodesUptoRow : OpenClaim := { program := "ytehbclliiphglaa", sum := "ec17ca61bf516f4f6c6a83ed6715a8275fa9d60ccf64079349c148f1a1ddb20b", func := "muster/musterlaw01.KeysDecodes", spec := "keysDecodes", apart := false, narrowed := true }
def KeysDecodesUptoSaid : Prop := keysDecodesUptoRow.holds Try.pinned (OpenSpec.upto keysDecodesSpec)

/-- 'musterlaw01.KeysBack', WHERE WHAT IT READS IS OF BULK AT MOST 1048576: true; the input reads as it did. -/
def keysBackUptoRow : OpenClaim := { program := "ytehbclliiphglaa", sum := "ec17ca61bf516f4f6c6a83ed6715a8275fa9d60ccf64079349c148f1a1ddb20b", func := "muster/musterlaw01.KeysBack", spec := "keysBack", apart := false, narrowed := true }
def KeysBackUptoSaid : Prop := keysBackUptoRow.holds Try.pinned (OpenSpec.upto keysBackSpec)

/-- 'musterlaw01.KeysCompares', WHERE WHAT IT READS IS OF BULK AT MOST 1048576: true; the input reads as it did. -/
def keysComparesUptoRow : OpenClaim := { program := "ytehbclliiphglaa", sum := "ec17ca61bf516f4f6c6a83ed6715a8275fa9d60ccf64079349c148f1a1ddb20b", func := "muster/musterlaw01.KeysCompares", spec := "keysCompares", apart := false, narrowed := true }
def KeysComparesUptoSaid : Prop := keysComparesUptoRow.holds Try.pinned (OpenSpec.upto keysComparesSpec)

end Rows
end Go.Proofs.Ytehbclliiphglaa
