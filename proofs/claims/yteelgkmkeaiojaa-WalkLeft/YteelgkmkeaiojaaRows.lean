/-
  No cell of these rows narrows 'for every input' (looked for: loops, veiled, ifaces, maps, wideKeys, modest, calm, conditions, laid).
  DERIVED. THE GIVEN ROWS OF THIS SEAT. 6 by the template 'for every input the law returns true; each argument reads behind the call as it read before'; 0 by the template 'total and deterministic' (their statements: YteelgkmkeaiojaaTotals.lean).
  GIVEN WITH THE SEED: the statements are not yours to turn. If you find one false, say at which input.
  Laid BY PROGRAM, IN A SANDBOX (cutbox-rows.mjs): the forced cells as the released guide's own fill.sh prints them over the translation d92ddcb27ed2a38e… (all of the seat's roots in one cut). By AI agents, Wed Nov 11 2026. No macro, syntax, notation, axiom, sorry.
-/
import Derived.Test.YteelgkmkeaiojaaChecked
import GoSem.Claim
import GoSem.ClaimJoined
import GoSem.ClaimMapViews
import Derived.JoinedTies
import Derived.KernelRfl
namespace Go.Proofs.Yteelgkmkeaiojaa
/- THE CELL 'sum', in the pinned program and in every row, IS THE sha256 OF THE DUMP (.gsa) THAT YteelgkmkeaiojaaProg.lean LOADS. Nothing in Lean hashes anything: it is a label: what it is worth is what the hold of that sum in a sandbox is worth. -/
noncomputable def Try.pinned : Pinned := { name := "yteelgkmkeaiojaa", sum := "d92ddcb27ed2a38eee6d1c1d4c231f720923cb05e9a8c87721c3ff0fe1dc80ae", checked := Try.checked }
namespace Rows
def none {H : Type} : Left H := { results := [], args := [] }

/-- 'musterlaw04.WalkAll': WHATEVER THE INPUT: true; the input reads as it did. -/
def walkAllSpec : ChangeSpec := { name := "walkAll", fn := fun _ => fun
  | [d] => { results := [.lit (.bool true)], args := [d] }
  | _ => none }
def walkAllRow : OpenClaim := { program := "yteelgkmkeaiojaa", sum := "d92ddcb27ed2a38eee6d1c1d4c231f720923cb05e9a8c87721c3ff0fe1dc80ae", func := "muster/musterlaw04.WalkAll", spec := "walkAll", unfollowed := true, recurses := true, apart := false }
def WalkAllSaid : Prop := walkAllRow.holds Try.pinned (OpenSpec.ofChange walkAllSpec)

/-- ITS FALSE NEIGHBOUR: 'it returns false'. Refute it at one input. -/
def walkAllWrong : ChangeSpec := { name := "walkAll", fn := fun _ => fun
  | [d] => { results := [.lit (.bool false)], args := [d] }
  | _ => none }
def WalkAllWrongFalsely : Prop := walkAllRow.holds Try.pinned (OpenSpec.ofChange walkAllWrong)

/-- 'musterlaw04.WalkUnder': WHATEVER THE INPUT: true; the input reads as it did. -/
def walkUnderSpec : ChangeSpec := { name := "walkUnder", fn := fun _ => fun
  | [d1, d2] => { results := [.lit (.bool true)], args := [d1, d2] }
  | _ => none }
def walkUnderRow : OpenClaim := { program := "yteelgkmkeaiojaa", sum := "d92ddcb27ed2a38eee6d1c1d4c231f720923cb05e9a8c87721c3ff0fe1dc80ae", func := "muster/musterlaw04.WalkUnder", spec := "walkUnder", unfollowed := true, recurses := true, apart := false }
def WalkUnderSaid : Prop := walkUnderRow.holds Try.pinned (OpenSpec.ofChange walkUnderSpec)

/-- ITS FALSE NEIGHBOUR: 'it returns false'. Refute it at one input. -/
def walkUnderWrong : ChangeSpec := { name := "walkUnder", fn := fun _ => fun
  | [d1, d2] => { results := [.lit (.bool false)], args := [d1, d2] }
  | _ => none }
def WalkUnderWrongFalsely : Prop := walkUnderRow.holds Try.pinned (OpenSpec.ofChange walkUnderWrong)

/-- 'musterlaw04.WalkFrom': WHATEVER THE INPUT: true; the input reads as it did. -/
def walkFromSpec : ChangeSpec := { name := "walkFrom", fn := fun _ => fun
  | [d1, d2] => { results := [.lit (.bool true)], args := [d1, d2] }
  | _ => none }
def walkFromRow : OpenClaim := { program := "yteelgkmkeaiojaa", sum := "d92ddcb27ed2a38eee6d1c1d4c231f720923cb05e9a8c87721c3ff0fe1dc80ae", func := "muster/musterlaw04.WalkFrom", spec := "walkFrom", unfollowed := true, recurses := true, apart := false }
def WalkFromSaid : Prop := walkFromRow.holds Try.pinned (OpenSpec.ofChange walkFromSpec)

/-- ITS FALSE NEIGHBOUR: 'it returns false'. Refute it at one input. -/
def walkFromWrong : ChangeSpec := { name := "walkFrom", fn := fun _ => fun
  | [d1, d2] => { results := [.lit (.bool false)], args := [d1, d2] }
  | _ => none }
def WalkFromWrongFalsely : Prop := walkFromRow.holds Try.pinned (OpenSpec.ofChange walkFromWrong)

/-- 'musterlaw04.WalkBetween': WHATEVER THE INPUT: true; the input reads as it did. -/
def walkBetweenSpec : ChangeSpec := { name := "walkBetween", fn := fun _ => fun
  | [d1, d2, d3] => { results := [.lit (.bool true)], args := [d1, d2, d3] }
  | _ => none }
def walkBetweenRow : OpenClaim := { program := "yteelgkmkeaiojaa", sum := "d92ddcb27ed2a38eee6d1c1d4c231f720923cb05e9a8c87721c3ff0fe1dc80ae", func := "muster/musterlaw04.WalkBetween", spec := "walkBetween", unfollowed := true, recurses := true, apart := false }
def WalkBetweenSaid : Prop := walkBetweenRow.holds Try.pinned (OpenSpec.ofChange walkBetweenSpec)

/-- ITS FALSE NEIGHBOUR: 'it returns false'. Refute it at one input. -/
def walkBetweenWrong : ChangeSpec := { name := "walkBetween", fn := fun _ => fun
  | [d1, d2, d3] => { results := [.lit (.bool false)], args := [d1, d2, d3] }
  | _ => none }
def WalkBetweenWrongFalsely : Prop := walkBetweenRow.holds Try.pinned (OpenSpec.ofChange walkBetweenWrong)

/-- 'musterlaw04.WalkAlong': WHATEVER THE INPUT: true; the input reads as it did. -/
def walkAlongSpec : ChangeSpec := { name := "walkAlong", fn := fun _ => fun
  | [d1, d2] => { results := [.lit (.bool true)], args := [d1, d2] }
  | _ => none }
def walkAlongRow : OpenClaim := { program := "yteelgkmkeaiojaa", sum := "d92ddcb27ed2a38eee6d1c1d4c231f720923cb05e9a8c87721c3ff0fe1dc80ae", func := "muster/musterlaw04.WalkAlong", spec := "walkAlong", unfollowed := true, recurses := true, apart := false }
def WalkAlongSaid : Prop := walkAlongRow.holds Try.pinned (OpenSpec.ofChange walkAlongSpec)

/-- ITS FALSE NEIGHBOUR: 'it returns false'. Refute it at one input. -/
def walkAlongWrong : ChangeSpec := { name := "walkAlong", fn := fun _ => fun
  | [d1, d2] => { results := [.lit (.bool false)], args := [d1, d2] }
  | _ => none }
def WalkAlongWrongFalsely : Prop := walkAlongRow.holds Try.pinned (OpenSpec.ofChange walkAlongWrong)

/-- 'musterlaw04.WalkLeft': WHATEVER THE INPUT: true; the input reads as it did. -/
def walkLeftSpec : ChangeSpec := { name := "walkLeft", fn := fun _ => fun
  | [d1, d2] => { results := [.lit (.bool true)], args := [d1, d2] }
  | _ => none }
def walkLeftRow : OpenClaim := { program := "yteelgkmkeaiojaa", sum := "d92ddcb27ed2a38eee6d1c1d4c231f720923cb05e9a8c87721c3ff0fe1dc80ae", func := "muster/musterlaw04.WalkLeft", spec := "walkLeft", unfollowed := true, recurses := true, apart := false }
def WalkLeftSaid : Prop := walkLeftRow.holds Try.pinned (OpenSpec.ofChange walkLeftSpec)

/-- ITS FALSE NEIGHBOUR: 'it returns false'. Refute it at one input. -/
def walkLeftWrong : ChangeSpec := { name := "walkLeft", fn := fun _ => fun
  | [d1, d2] => { results := [.lit (.bool false)], args := [d1, d2] }
  | _ => none }
def WalkLeftWrongFalsely : Prop := walkLeftRow.holds Try.pinned (OpenSpec.ofChange walkLeftWrong)

/- THE SECOND FORM. 'bulk': how many values and letters a reading holds, each counted each time it is reached (what is shared counts as often as it is met; a slice's spare places count too). A statement '..UptoSaid' is the law's where the arguments, and the package variables that the reading takes, are together of bulk at most 1048576: NARROWER than '..Said'. Prove '..Said' where nothing that the law and all that it calls make is longer than what came in: it says more and counts as full. Else prove '..UptoSaid'. A law counts once. -/
mutual
def uptoBulk {H : Type} : DataW H → Nat
  | .lit (.string bytes) => bytes.length + 1
  | .lit _ => 1
  | .nil => 1
  | .ptr d => uptoBulk d + 1
  | .slice elems spare => uptoBulkAll elems + uptoBulkAll spare + 1
  | .agg parts => uptoBulkAll parts + 1
  | .iface _ d => uptoBulk d + 1
  | .map entries => uptoBulkEntries entries + 1
  | .held _ => 1
def uptoBulkAll {H : Type} : List (DataW H) → Nat
  | [] => 0
  | d :: r => uptoBulk d + uptoBulkAll r
def uptoBulkEntries {H : Type} : List (Lit × DataW H) → Nat
  | [] => 0
  | x :: r => uptoBulkEntry x + uptoBulkEntries r
def uptoBulkEntry {H : Type} : Lit × DataW H → Nat
  | (.string bytes, d) => bytes.length + uptoBulk d + 1
  | (_, d) => uptoBulk d + 1
 end
def uptoSmall : (H : Type) → List (DataW H) → Bool := fun _ ds => decide (uptoBulkAll ds ≤ 1048576)
def OpenSpec.upto (s : _root_.Go.ChangeSpec) : _root_.Go.OpenSpec := { _root_.Go.OpenSpec.ofChange s with cond := some uptoSmall }

/-- 'musterlaw04.WalkAll', WHERE WHAT IT READS IS OF BULK AT MOST 1048576: true; the input reads as it did. -/
def walkAllUptoRow : OpenClaim := { program := "yteelgkmkeaiojaa", sum := "d92ddcb27ed2a38eee6d1c1d4c231f720923cb05e9a8c87721c3ff0fe1dc80ae", func := "muster/musterlaw04.WalkAll", spec := "walkAll", unfollowed := true, recurses := true, apart := false, narrowed := true }
def WalkAllUptoSaid : Prop := walkAllUptoRow.holds Try.pinned (OpenSpec.upto walkAllSpec)

/-- 'musterlaw04.WalkUnder', WHERE WHAT IT READS IS OF BULK AT MOST 1048576: true; the input reads as it did. -/
def walkUnderUptoRow : OpenClaim := { program := "yteelgkmkeaiojaa", sum := "d92ddcb27ed2a38eee6d1c1d4c231f720923cb05e9a8c87721c3ff0fe1dc80ae", func := "muster/musterlaw04.WalkUnder", spec := "walkUnder", unfollowed := true, recurses := true, apart := false, narrowed := true }
def WalkUnderUptoSaid : Prop := walkUnderUptoRow.holds Try.pinned (OpenSpec.upto walkUnderSpec)

/-- 'musterlaw04.WalkFrom', WHERE WHAT IT READS IS OF BULK AT MOST 1048576: true; the input reads as it did. -/
def walkFromUptoRow : OpenClaim := { program := "yteelgkmkeaiojaa", sum := "d92ddcb27ed2a38eee6d1c1d4c231f720923cb05e9a8c87721c3ff0fe1dc80ae", func := "muster/musterlaw04.WalkFrom", spec := "walkFrom", unfollowed := true, recurses := true, apart := false, narrowed := true }
def WalkFromUptoSaid : Prop := walkFromUptoRow.holds Try.pinned (OpenSpec.upto walkFromSpec)

/-- 'musterlaw04.WalkBetween', WHERE WHAT IT READS IS OF BULK AT MOST 1048576: true; the input reads as it did. -/
def walkBetweenUptoRow : OpenClaim := { program := "yteelgkmkeaiojaa", sum := "d92ddcb27ed2a38eee6d1c1d4c231f720923cb05e9a8c87721c3ff0fe1dc80ae", func := "muster/musterlaw04.WalkBetween", spec := "walkBetween", unfollowed := true, recurses := true, apart := false, narrowed := true }
def WalkBetweenUptoSaid : Prop := walkBetweenUptoRow.holds Try.pinned (OpenSpec.upto walkBetweenSpec)

/-- 'musterlaw04.WalkAlong', WHERE WHAT IT READS IS OF BULK AT MOST 1048576: true; the input reads as it did. -/
def walkAlongUptoRow : OpenClaim := { program := "yteelgkmkeaiojaa", sum := "d92ddcb27ed2a38eee6d1c1d4c231f720923cb05e9a8c87721c3ff0fe1dc80ae", func := "muster/musterlaw04.WalkAlong", spec := "walkAlong", unfollowed := true, recurses := true, apart := false, narrowed := true }
def WalkAlongUptoSaid : Prop := walkAlongUptoRow.holds Try.pinned (OpenSpec.upto walkAlongSpec)

/-- 'musterlaw04.WalkLeft', WHERE WHAT IT READS IS OF BULK AT MOST 1048576: true; the input reads as it did. -/
def walkLeftUptoRow : OpenClaim := { program := "yteelgkmkeaiojaa", sum := "d92ddcb27ed2a38eee6d1c1d4c231f720923cb05e9a8c87721c3ff0fe1dc80ae", func := "muster/musterlaw04.WalkLeft", spec := "walkLeft", unfollowed := true, recurses := true, apart := false, narrowed := true }
def WalkLeftUptoSaid : Prop := walkLeftUptoRow.holds Try.pinned (OpenSpec.upto walkLeftSpec)

end Rows
end Go.Proofs.Yteelgkmkeaiojaa
