/-
  No cell of these rows narrows 'for every input' (looked for: loops, veiled, ifaces, maps, wideKeys, modest, calm, conditions, laid).
  DERIVED. THE GIVEN ROWS OF THIS SEAT. 6 by the template 'for every input the law returns true; each argument reads behind the call as it read before'; 0 by the template 'total and deterministic' (their statements: YtindefkngcelnaaTotals.lean).
  GIVEN WITH THE SEED: the statements are not yours to turn. If you find one false, say at which input.
  Laid BY PROGRAM, IN A SANDBOX (cutbox-rows.mjs): the forced cells as the released guide's own fill.sh prints them over the translation ff53a7e862b229ec… (all of the seat's roots in one cut). By AI agents, Wed Nov 11 2026. No macro, syntax, notation, axiom, sorry.
-/
import Derived.Test.YtindefkngcelnaaChecked
import GoSem.Claim
import GoSem.ClaimJoined
import GoSem.ClaimMapViews
import Derived.JoinedTies
import Derived.KernelRfl
namespace Go.Proofs.Ytindefkngcelnaa
/- THE CELL 'sum', in the pinned program and in every row, IS THE sha256 OF THE DUMP (.gsa) THAT YtindefkngcelnaaProg.lean LOADS. Nothing in Lean hashes anything: it is a label: what it is worth is what the hold of that sum in a sandbox is worth. -/
noncomputable def Try.pinned : Pinned := { name := "ytindefkngcelnaa", sum := "ff53a7e862b229ec472595690935a52b2d8ae8dbe8a5963d65dfbbd05889d82d", checked := Try.checked }
namespace Rows
def none {H : Type} : Left H := { results := [], args := [] }

/-- 'musterlaw07.RowsNames': WHATEVER THE INPUT: true; the input reads as it did. -/
def rowsNamesSpec : ChangeSpec := { name := "rowsNames", fn := fun _ => fun
  | [] => { results := [.lit (.bool true)], args := [] }
  | _ => none }
def rowsNamesRow : OpenClaim := { program := "ytindefkngcelnaa", sum := "ff53a7e862b229ec472595690935a52b2d8ae8dbe8a5963d65dfbbd05889d82d", func := "muster/musterlaw07.RowsNames", spec := "rowsNames", recurses := true, apart := false }
def RowsNamesSaid : Prop := rowsNamesRow.holds Try.pinned (OpenSpec.ofChange rowsNamesSpec)

/-- ITS FALSE NEIGHBOUR: 'it returns false'. Refute it at one input. -/
def rowsNamesWrong : ChangeSpec := { name := "rowsNames", fn := fun _ => fun
  | [] => { results := [.lit (.bool false)], args := [] }
  | _ => none }
def RowsNamesWrongFalsely : Prop := rowsNamesRow.holds Try.pinned (OpenSpec.ofChange rowsNamesWrong)

/-- 'musterlaw07.RowsFits': WHATEVER THE INPUT: true; the input reads as it did. -/
def rowsFitsSpec : ChangeSpec := { name := "rowsFits", fn := fun _ => fun
  | [d1, d2, d3] => { results := [.lit (.bool true)], args := [d1, d2, d3] }
  | _ => none }
def rowsFitsRow : OpenClaim := { program := "ytindefkngcelnaa", sum := "ff53a7e862b229ec472595690935a52b2d8ae8dbe8a5963d65dfbbd05889d82d", func := "muster/musterlaw07.RowsFits", spec := "rowsFits", recurses := true, apart := false }
def RowsFitsSaid : Prop := rowsFitsRow.holds Try.pinned (OpenSpec.ofChange rowsFitsSpec)

/-- ITS FALSE NEIGHBOUR: 'it returns false'. Refute it at one input. -/
def rowsFitsWrong : ChangeSpec := { name := "rowsFits", fn := fun _ => fun
  | [d1, d2, d3] => { results := [.lit (.bool false)], args := [d1, d2, d3] }
  | _ => none }
def RowsFitsWrongFalsely : Prop := rowsFitsRow.holds Try.pinned (OpenSpec.ofChange rowsFitsWrong)

/-- 'musterlaw07.RowsKeys': WHATEVER THE INPUT: true; the input reads as it did. -/
def rowsKeysSpec : ChangeSpec := { name := "rowsKeys", fn := fun _ => fun
  | [d1, d2, d3] => { results := [.lit (.bool true)], args := [d1, d2, d3] }
  | _ => none }
def rowsKeysRow : OpenClaim := { program := "ytindefkngcelnaa", sum := "ff53a7e862b229ec472595690935a52b2d8ae8dbe8a5963d65dfbbd05889d82d", func := "muster/musterlaw07.RowsKeys", spec := "rowsKeys", recurses := true, apart := false }
def RowsKeysSaid : Prop := rowsKeysRow.holds Try.pinned (OpenSpec.ofChange rowsKeysSpec)

/-- ITS FALSE NEIGHBOUR: 'it returns false'. Refute it at one input. -/
def rowsKeysWrong : ChangeSpec := { name := "rowsKeys", fn := fun _ => fun
  | [d1, d2, d3] => { results := [.lit (.bool false)], args := [d1, d2, d3] }
  | _ => none }
def RowsKeysWrongFalsely : Prop := rowsKeysRow.holds Try.pinned (OpenSpec.ofChange rowsKeysWrong)

/-- 'musterlaw07.RowsProbes': WHATEVER THE INPUT: true; the input reads as it did. -/
def rowsProbesSpec : ChangeSpec := { name := "rowsProbes", fn := fun _ => fun
  | [d1, d2, d3] => { results := [.lit (.bool true)], args := [d1, d2, d3] }
  | _ => none }
def rowsProbesRow : OpenClaim := { program := "ytindefkngcelnaa", sum := "ff53a7e862b229ec472595690935a52b2d8ae8dbe8a5963d65dfbbd05889d82d", func := "muster/musterlaw07.RowsProbes", spec := "rowsProbes", unfollowed := true, recurses := true, apart := false }
def RowsProbesSaid : Prop := rowsProbesRow.holds Try.pinned (OpenSpec.ofChange rowsProbesSpec)

/-- ITS FALSE NEIGHBOUR: 'it returns false'. Refute it at one input. -/
def rowsProbesWrong : ChangeSpec := { name := "rowsProbes", fn := fun _ => fun
  | [d1, d2, d3] => { results := [.lit (.bool false)], args := [d1, d2, d3] }
  | _ => none }
def RowsProbesWrongFalsely : Prop := rowsProbesRow.holds Try.pinned (OpenSpec.ofChange rowsProbesWrong)

/-- 'musterlaw07.RowsFound': WHATEVER THE INPUT: true; the input reads as it did. -/
def rowsFoundSpec : ChangeSpec := { name := "rowsFound", fn := fun _ => fun
  | [d1, d2, d3] => { results := [.lit (.bool true)], args := [d1, d2, d3] }
  | _ => none }
def rowsFoundRow : OpenClaim := { program := "ytindefkngcelnaa", sum := "ff53a7e862b229ec472595690935a52b2d8ae8dbe8a5963d65dfbbd05889d82d", func := "muster/musterlaw07.RowsFound", spec := "rowsFound", unfollowed := true, recurses := true, apart := false }
def RowsFoundSaid : Prop := rowsFoundRow.holds Try.pinned (OpenSpec.ofChange rowsFoundSpec)

/-- ITS FALSE NEIGHBOUR: 'it returns false'. Refute it at one input. -/
def rowsFoundWrong : ChangeSpec := { name := "rowsFound", fn := fun _ => fun
  | [d1, d2, d3] => { results := [.lit (.bool false)], args := [d1, d2, d3] }
  | _ => none }
def RowsFoundWrongFalsely : Prop := rowsFoundRow.holds Try.pinned (OpenSpec.ofChange rowsFoundWrong)

/-- 'musterlaw07.RowsLow': WHATEVER THE INPUT: true; the input reads as it did. -/
def rowsLowSpec : ChangeSpec := { name := "rowsLow", fn := fun _ => fun
  | [d] => { results := [.lit (.bool true)], args := [d] }
  | _ => none }
def rowsLowRow : OpenClaim := { program := "ytindefkngcelnaa", sum := "ff53a7e862b229ec472595690935a52b2d8ae8dbe8a5963d65dfbbd05889d82d", func := "muster/musterlaw07.RowsLow", spec := "rowsLow", recurses := true, apart := false }
def RowsLowSaid : Prop := rowsLowRow.holds Try.pinned (OpenSpec.ofChange rowsLowSpec)

/-- ITS FALSE NEIGHBOUR: 'it returns false'. Refute it at one input. -/
def rowsLowWrong : ChangeSpec := { name := "rowsLow", fn := fun _ => fun
  | [d] => { results := [.lit (.bool false)], args := [d] }
  | _ => none }
def RowsLowWrongFalsely : Prop := rowsLowRow.holds Try.pinned (OpenSpec.ofChange rowsLowWrong)

/- THE SECOND FORM. 'bulk': how many values and letters a reading holds, each counted each time it is reached (what is shared counts as often as it is met; a slice's spare places count too). A statement '..UptoSaid' is the law's where the arguments, and the package variables that the reading takes, are together of bulk at most 1048576: NARROWER than '..Said'. Prove '..Said' where nothing that the law and all that it calls make is longer than what came in: it says more and counts as full. Else prove '..UptoSaid'. A law counts once. -/
mutual
def uptoBulk {H : Type} : DataW H → Nat
  | .lit (.string bytes) => bytes.length + 1
  | .lit _ => 1
  | .nil => 1
  | .ptr d => uptoBulk d + 1
  | .slice elems spare => uptoBulkAll elems + uptoBulkAll spare + 1
  | .agg parts => uptoBulkAll parts + 1
  | .iface _ d => uptoBulk d + 1
  | .map entries => uptoBulkEntries entries + 1
  | .held _ => 1
def uptoBulkAll {H : Type} : List (DataW H) → Nat
  | [] => 0
  | d :: r => uptoBulk d + uptoBulkAll r
def uptoBulkEntries {H : Type} : List (Lit × DataW H) → Nat
  | [] => 0
  | x :: r => uptoBulkEntry x + uptoBulkEntries r
def uptoBulkEntry {H : Type} : Lit × DataW H → Nat
  | (.string bytes, d) => bytes.length + uptoBulk d + 1
  | (_, d) => uptoBulk d + 1
 end
def uptoSmall : (H : Type) → List (DataW H) → Bool := fun _ ds => decide (uptoBulkAll ds ≤ 1048576)
def OpenSpec.upto (s : _root_.Go.ChangeSpec) : _root_.Go.OpenSpec := { _root_.Go.OpenSpec.ofChange s with cond := some uptoSmall }

/-- 'musterlaw07.RowsNames', WHERE WHAT IT READS IS OF BULK AT MOST 1048576: true; the input reads as it did. -/
def rowsNamesUptoRow : OpenClaim := { program := "ytindefkngcelnaa", sum := "ff53a7e862b229ec472595690935a52b2d8ae8dbe8a5963d65dfbbd05889d82d", func := "muster/musterlaw07.RowsNames", spec := "rowsNames", recurses := true, apart := false, narrowed := true }
def RowsNamesUptoSaid : Prop := rowsNamesUptoRow.holds Try.pinned (OpenSpec.upto rowsNamesSpec)

/-- 'musterlaw07.RowsFits', WHERE WHAT IT READS IS OF BULK AT MOST 1048576: true; the input reads as it did. -/
def rowsFitsUptoRow : OpenClaim := { program := "ytindefkngcelnaa", sum := "ff53a7e862b229ec472595690935a52b2d8ae8dbe8a5963d65dfbbd05889d82d", func := "muster/musterlaw07.RowsFits", spec := "rowsFits", recurses := true, apart := false, narrowed := true }
def RowsFitsUptoSaid : Prop := rowsFitsUptoRow.holds Try.pinned (OpenSpec.upto rowsFitsSpec)

/-- 'musterlaw07.RowsKeys', WHERE WHAT IT READS IS OF BULK AT MOST 1048576: true; the input reads as it did. -/
def rowsKeysUptoRow : OpenClaim := { program := "ytindefkngcelnaa", sum := "ff53a7e862b229ec472595690935a52b2d8ae8dbe8a5963d65dfbbd05889d82d", func := "muster/musterlaw07.RowsKeys", spec := "rowsKeys", recurses := true, apart := false, narrowed := true }
def RowsKeysUptoSaid : Prop := rowsKeysUptoRow.holds Try.pinned (OpenSpec.upto rowsKeysSpec)

/-- 'musterlaw07.RowsProbes', WHERE WHAT IT READS IS OF BULK AT MOST 1048576: true; the input reads as it did. -/
def rowsProbesUptoRow : OpenClaim := { program := "ytindefkngcelnaa", sum := "ff53a7e862b229ec472595690935a52b2d8ae8dbe8a5963d65dfbbd05889d82d", func := "muster/musterlaw07.RowsProbes", spec := "rowsProbes", unfollowed := true, recurses := true, apart := false, narrowed := true }
def RowsProbesUptoSaid : Prop := rowsProbesUptoRow.holds Try.pinned (OpenSpec.upto rowsProbesSpec)

/-- 'musterlaw07.RowsFound', WHERE WHAT IT READS IS OF BULK AT MOST 1048576: true; the input reads as it did. -/
def rowsFoundUptoRow : OpenClaim := { program := "ytindefkngcelnaa", sum := "ff53a7e862b229ec472595690935a52b2d8ae8dbe8a5963d65dfbbd05889d82d", func := "muster/musterlaw07.RowsFound", spec := "rowsFound", unfollowed := true, recurses := true, apart := false, narrowed := true }
def RowsFoundUptoSaid : Prop := rowsFoundUptoRow.holds Try.pinned (OpenSpec.upto rowsFoundSpec)

/-- 'musterlaw07.RowsLow', WHERE WHAT IT READS IS OF BULK AT MOST 1048576: true; the input reads as it did. -/
def rowsLowUptoRow : OpenClaim := { program := "ytindefkngcelnaa", sum := "ff53a7e862b229ec472595690935a52b2d8ae8dbe8a5963d65dfbbd05889d82d", func := "muster/musterlaw07.RowsLow", spec := "rowsLow", recurses := true, apart := false, narrowed := true }
def RowsLowUptoSaid : Prop := rowsLowUptoRow.holds Try.pinned (OpenSpec.upto rowsLowSpec)

end Rows
end Go.Proofs.Ytindefkngcelnaa
