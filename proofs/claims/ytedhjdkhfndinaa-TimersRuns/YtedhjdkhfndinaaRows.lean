/-
  No cell of these rows narrows 'for every input' (looked for: loops, veiled, ifaces, maps, wideKeys, modest, calm, conditions, laid).
  DERIVED. THE GIVEN ROWS OF THIS SEAT. 4 by the template 'for every input the law returns true; each argument reads behind the call as it read before'; 0 by the template 'total and deterministic' (their statements: YtedhjdkhfndinaaTotals.lean).
  GIVEN WITH THE SEED: the statements are not yours to turn. If you find one false, say at which input.
  Laid BY PROGRAM, IN A SANDBOX (cutbox-rows.mjs): the forced cells as the released guide's own fill.sh prints them over the translation fbaa41c7f2140411… (all of the seat's roots in one cut). By AI agents, Wed Nov 11 2026. No macro, syntax, notation, axiom, sorry.
-/
import Derived.Test.YtedhjdkhfndinaaChecked
import GoSem.Claim
import GoSem.ClaimJoined
import GoSem.ClaimMapViews
import Derived.JoinedTies
import Derived.KernelRfl
namespace Go.Proofs.Ytedhjdkhfndinaa
/- THE CELL 'sum', in the pinned program and in every row, IS THE sha256 OF THE DUMP (.gsa) THAT YtedhjdkhfndinaaProg.lean LOADS. Nothing in Lean hashes anything: it is a label: what it is worth is what the hold of that sum in a sandbox is worth. -/
noncomputable def Try.pinned : Pinned := { name := "ytedhjdkhfndinaa", sum := "fbaa41c7f21404119776192ef9bfd6a4d20266d4f221d1064646a9d0b9a440c7", checked := Try.checked }
namespace Rows
def none {H : Type} : Left H := { results := [], args := [] }

/-- 'musterlaw14.TimersNames': WHATEVER THE INPUT: true; the input reads as it did. -/
def timersNamesSpec : ChangeSpec := { name := "timersNames", fn := fun _ => fun
  | [] => { results := [.lit (.bool true)], args := [] }
  | _ => none }
def timersNamesRow : OpenClaim := { program := "ytedhjdkhfndinaa", sum := "fbaa41c7f21404119776192ef9bfd6a4d20266d4f221d1064646a9d0b9a440c7", func := "muster/musterlaw14.TimersNames", spec := "timersNames", unfollowed := true, recurses := true, apart := false }
def TimersNamesSaid : Prop := timersNamesRow.holds Try.pinned (OpenSpec.ofChange timersNamesSpec)

/-- ITS FALSE NEIGHBOUR: 'it returns false'. Refute it at one input. -/
def timersNamesWrong : ChangeSpec := { name := "timersNames", fn := fun _ => fun
  | [] => { results := [.lit (.bool false)], args := [] }
  | _ => none }
def TimersNamesWrongFalsely : Prop := timersNamesRow.holds Try.pinned (OpenSpec.ofChange timersNamesWrong)

/-- 'musterlaw14.TimersRuns': WHATEVER THE INPUT: true; the input reads as it did. -/
def timersRunsSpec : ChangeSpec := { name := "timersRuns", fn := fun _ => fun
  | [d1, d2] => { results := [.lit (.bool true)], args := [d1, d2] }
  | _ => none }
def timersRunsRow : OpenClaim := { program := "ytedhjdkhfndinaa", sum := "fbaa41c7f21404119776192ef9bfd6a4d20266d4f221d1064646a9d0b9a440c7", func := "muster/musterlaw14.TimersRuns", spec := "timersRuns", unfollowed := true, recurses := true, apart := false }
def TimersRunsSaid : Prop := timersRunsRow.holds Try.pinned (OpenSpec.ofChange timersRunsSpec)

/-- ITS FALSE NEIGHBOUR: 'it returns false'. Refute it at one input. -/
def timersRunsWrong : ChangeSpec := { name := "timersRuns", fn := fun _ => fun
  | [d1, d2] => { results := [.lit (.bool false)], args := [d1, d2] }
  | _ => none }
def TimersRunsWrongFalsely : Prop := timersRunsRow.holds Try.pinned (OpenSpec.ofChange timersRunsWrong)

/-- 'musterlaw14.TimersOnce': WHATEVER THE INPUT: true; the input reads as it did. -/
def timersOnceSpec : ChangeSpec := { name := "timersOnce", fn := fun _ => fun
  | [d1, d2, d3] => { results := [.lit (.bool true)], args := [d1, d2, d3] }
  | _ => none }
def timersOnceRow : OpenClaim := { program := "ytedhjdkhfndinaa", sum := "fbaa41c7f21404119776192ef9bfd6a4d20266d4f221d1064646a9d0b9a440c7", func := "muster/musterlaw14.TimersOnce", spec := "timersOnce", unfollowed := true, recurses := true, apart := false }
def TimersOnceSaid : Prop := timersOnceRow.holds Try.pinned (OpenSpec.ofChange timersOnceSpec)

/-- ITS FALSE NEIGHBOUR: 'it returns false'. Refute it at one input. -/
def timersOnceWrong : ChangeSpec := { name := "timersOnce", fn := fun _ => fun
  | [d1, d2, d3] => { results := [.lit (.bool false)], args := [d1, d2, d3] }
  | _ => none }
def TimersOnceWrongFalsely : Prop := timersOnceRow.holds Try.pinned (OpenSpec.ofChange timersOnceWrong)

/-- 'musterlaw14.TimersAfter': WHATEVER THE INPUT: true; the input reads as it did. -/
def timersAfterSpec : ChangeSpec := { name := "timersAfter", fn := fun _ => fun
  | [d1, d2] => { results := [.lit (.bool true)], args := [d1, d2] }
  | _ => none }
def timersAfterRow : OpenClaim := { program := "ytedhjdkhfndinaa", sum := "fbaa41c7f21404119776192ef9bfd6a4d20266d4f221d1064646a9d0b9a440c7", func := "muster/musterlaw14.TimersAfter", spec := "timersAfter", unfollowed := true, recurses := true, apart := false }
def TimersAfterSaid : Prop := timersAfterRow.holds Try.pinned (OpenSpec.ofChange timersAfterSpec)

/-- ITS FALSE NEIGHBOUR: 'it returns false'. Refute it at one input. -/
def timersAfterWrong : ChangeSpec := { name := "timersAfter", fn := fun _ => fun
  | [d1, d2] => { results := [.lit (.bool false)], args := [d1, d2] }
  | _ => none }
def TimersAfterWrongFalsely : Prop := timersAfterRow.holds Try.pinned (OpenSpec.ofChange timersAfterWrong)

/- THE SECOND FORM. 'bulk': how many values and letters a reading holds, each counted each time it is reached (what is shared counts as often as it is met; a slice's spare places count too). A statement '..UptoSaid' is the law's where the arguments, and the package variables that the reading takes, are together of bulk at most 1048576: NARROWER than '..Said'. Prove '..Said' where nothing that the law and all that it calls make is longer than what came in: it says more and counts as full. Else prove '..UptoSaid'. A law counts once. -/
mutual
def uptoBulk {H : Type} : DataW H → Nat
  | .lit (.string bytes) => bytes.length + 1
  | .lit _ => 1
  | .nil => 1
  | .ptr d => uptoBulk d + 1
  | .slice elems spare => uptoBulkAll elems + uptoBulkAll spare + 1
  | .agg parts => uptoBulkAll parts + 1
  | .iface _ d => uptoBulk d + 1
  | .map entries => uptoBulkEntries entries + 1
  | .held _ => 1
def uptoBulkAll {H : Type} : List (DataW H) → Nat
  | [] => 0
  | d :: r => uptoBulk d + uptoBulkAll r
def uptoBulkEntries {H : Type} : List (Lit × DataW H) → Nat
  | [] => 0
  | x :: r => uptoBulkEntry x + uptoBulkEntries r
def uptoBulkEntry {H : Type} : Lit × DataW H → Nat
  | (.string bytes, d) => bytes.length + uptoBulk d + 1
  | (_, d) => uptoBulk d + 1
 end
def uptoSmall : (H : Type) → List (DataW H) → Bool := fun _ ds => decide (uptoBulkAll ds ≤ 1048576)
def OpenSpec.upto (s : _root_.Go.ChangeSpec) : _root_.Go.OpenSpec := { _root_.Go.OpenSpec.ofChange s with cond := some uptoSmall }

/-- 'musterlaw14.TimersNames', WHERE WHAT IT READS IS OF BULK AT MOST 1048576: true; the input reads as it did. -/
def timersNamesUptoRow : OpenClaim := { program := "ytedhjdkhfndinaa", sum := "fbaa41c7f21404119776192ef9bfd6a4d20266d4f221d1064646a9d0b9a440c7", func := "muster/musterlaw14.TimersNames", spec := "timersNames", unfollowed := true, recurses := true, apart := false, narrowed := true }
def TimersNamesUptoSaid : Prop := timersNamesUptoRow.holds Try.pinned (OpenSpec.upto timersNamesSpec)

/-- 'musterlaw14.TimersRuns', WHERE WHAT IT READS IS OF BULK AT MOST 1048576: true; the input reads as it did. -/
def timersRunsUptoRow : OpenClaim := { program := "ytedhjdkhfndinaa", sum := "fbaa41c7f21404119776192ef9bfd6a4d20266d4f221d1064646a9d0b9a440c7", func := "muster/musterlaw14.TimersRuns", spec := "timersRuns", unfollowed := true, recurses := true, apart := false, narrowed := true }
def TimersRunsUptoSaid : Prop := timersRunsUptoRow.holds Try.pinned (OpenSpec.upto timersRunsSpec)

/-- 'musterlaw14.TimersOnce', WHERE WHAT IT READS IS OF BULK AT MOST 1048576: true; the input reads as it did. -/
def timersOnceUptoRow : OpenClaim := { program := "ytedhjdkhfndinaa", sum := "fbaa41c7f21404119776192ef9bfd6a4d20266d4f221d1064646a9d0b9a440c7", func := "muster/musterlaw14.TimersOnce", spec := "timersOnce", unfollowed := true, recurses := true, apart := false, narrowed := true }
def TimersOnceUptoSaid : Prop := timersOnceUptoRow.holds Try.pinned (OpenSpec.upto timersOnceSpec)

/-- 'musterlaw14.TimersAfter', WHERE WHAT IT READS IS OF BULK AT MOST 1048576: true; the input reads as it did. -/
def timersAfterUptoRow : OpenClaim := { program := "ytedhjdkhfndinaa", sum := "fbaa41c7f21404119776192ef9bfd6a4d20266d4f221d1064646a9d0b9a440c7", func := "muster/musterlaw14.TimersAfter", spec := "timersAfter", unfollowed := true, recurses := true, apart := false, narrowed := true }
def TimersAfterUptoSaid : Prop := timersAfterUptoRow.holds Try.pinned (OpenSpec.upto timersAfterSpec)

end Rows
end Go.Proofs.Ytedhjdkhfndinaa
