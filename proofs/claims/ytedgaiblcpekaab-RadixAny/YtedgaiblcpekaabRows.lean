/-
  No cell of these rows narrows 'for every input' (looked for: loops, veiled, ifaces, maps, wideKeys, modest, calm, conditions, laid).
  DERIVED. THE GIVEN ROWS OF THIS SEAT. 2 by the template 'for every input the law returns true; each argument reads behind the call as it read before'; 0 by the template 'total and deterministic' (their statements: YtedgaiblcpekaabTotals.lean).
  GIVEN WITH THE SEED: the statements are not yours to turn. If you find one false, say at which input.
  Laid BY PROGRAM, IN A SANDBOX (cutbox-rows.mjs): the forced cells as the released guide's own fill.sh prints them over the translation a8846bfba0f712fd… (all of the seat's roots in one cut). By AI agents, Wed Nov 11 2026. No macro, syntax, notation, axiom, sorry.
-/
import Derived.Test.YtedgaiblcpekaabChecked
import GoSem.Claim
import GoSem.ClaimJoined
import GoSem.ClaimMapViews
import Derived.JoinedTies
import Derived.KernelRfl
namespace Go.Proofs.Ytedgaiblcpekaab
/- THE CELL 'sum', in the pinned program and in every row, IS THE sha256 OF THE DUMP (.gsa) THAT YtedgaiblcpekaabProg.lean LOADS. Nothing in Lean hashes anything: it is a label: what it is worth is what the hold of that sum in a sandbox is worth. -/
noncomputable def Try.pinned : Pinned := { name := "ytedgaiblcpekaab", sum := "a8846bfba0f712fd870cc078f66cfa1d6d59eab0c78e8f5f73cd9fb3ce3a7dee", checked := Try.checked }
namespace Rows
def none {H : Type} : Left H := { results := [], args := [] }

/-- 'musterlaw03.RadixWakes': WHATEVER THE INPUT: true; the input reads as it did. -/
def radixWakesSpec : ChangeSpec := { name := "radixWakes", fn := fun _ => fun
  | [d] => { results := [.lit (.bool true)], args := [d] }
  | _ => none }
def radixWakesRow : OpenClaim := { program := "ytedgaiblcpekaab", sum := "a8846bfba0f712fd870cc078f66cfa1d6d59eab0c78e8f5f73cd9fb3ce3a7dee", func := "muster/musterlaw03.RadixWakes", spec := "radixWakes", inPlace := ["sync/atomic.LoadUint32", "(*internal/sync.Mutex).Lock", "internal/race.Disable", "sync/atomic.CompareAndSwapInt32", "internal/race.Enable", "internal/race.Acquire", "(*internal/sync.Mutex).lockSlow", "internal/sync.runtime_canSpin", "internal/sync.runtime_doSpin", "internal/sync.throw", "internal/sync.runtime_nanotime", "internal/sync.runtime_SemacquireMutex", "sync/atomic.AddInt32", "(*internal/sync.Mutex).Unlock", "internal/race.ReleaseMerge", "(*internal/sync.Mutex).unlockSlow", "internal/sync.fatal", "internal/sync.runtime_Semrelease", "sync/atomic.StoreUint32"], unfollowed := true, recurses := true, apart := false }
def RadixWakesSaid : Prop := radixWakesRow.holds Try.pinned (OpenSpec.ofChange radixWakesSpec)

/-- ITS FALSE NEIGHBOUR: 'it returns false'. Refute it at one input. -/
def radixWakesWrong : ChangeSpec := { name := "radixWakes", fn := fun _ => fun
  | [d] => { results := [.lit (.bool false)], args := [d] }
  | _ => none }
def RadixWakesWrongFalsely : Prop := radixWakesRow.holds Try.pinned (OpenSpec.ofChange radixWakesWrong)

/-- 'musterlaw03.RadixAny': WHATEVER THE INPUT: true; the input reads as it did. -/
def radixAnySpec : ChangeSpec := { name := "radixAny", fn := fun _ => fun
  | [d1, d2] => { results := [.lit (.bool true)], args := [d1, d2] }
  | _ => none }
def radixAnyRow : OpenClaim := { program := "ytedgaiblcpekaab", sum := "a8846bfba0f712fd870cc078f66cfa1d6d59eab0c78e8f5f73cd9fb3ce3a7dee", func := "muster/musterlaw03.RadixAny", spec := "radixAny", unfollowed := true, recurses := true, apart := false }
def RadixAnySaid : Prop := radixAnyRow.holds Try.pinned (OpenSpec.ofChange radixAnySpec)

/-- ITS FALSE NEIGHBOUR: 'it returns false'. Refute it at one input. -/
def radixAnyWrong : ChangeSpec := { name := "radixAny", fn := fun _ => fun
  | [d1, d2] => { results := [.lit (.bool false)], args := [d1, d2] }
  | _ => none }
def RadixAnyWrongFalsely : Prop := radixAnyRow.holds Try.pinned (OpenSpec.ofChange radixAnyWrong)

/- THE SECOND FORM. 'bulk': how many values and letters a reading holds, each counted each time it is reached (what is shared counts as often as it is met; a slice's spare places count too). A statement '..UptoSaid' is the law's where the arguments, and the package variables that the reading takes, are together of bulk at most 1048576: NARROWER than '..Said'. Prove '..Said' where nothing that the law and all that it calls make is longer than what came in: it says more and counts as full. Else prove '..UptoSaid'. A law counts once. -/
mutual
def uptoBulk {H : Type} : DataW H → Nat
  | .lit (.string bytes) => bytes.length + 1
  | .lit _ => 1
  | .nil => 1
  | .ptr d => uptoBulk d + 1
  | .slice elems spare => uptoBulkAll elems + uptoBulkAll spare + 1
  | .agg parts => uptoBulkAll parts + 1
  | .iface _ d => uptoBulk d + 1
  | .map entries => uptoBulkEntries entries + 1
  | .held _ => 1
def uptoBulkAll {H : Type} : List (DataW H) → Nat
  | [] => 0
  | d :: r => uptoBulk d + uptoBulkAll r
def uptoBulkEntries {H : Type} : List (Lit × DataW H) → Nat
  | [] => 0
  | x :: r => uptoBulkEntry x + uptoBulkEntries r
def uptoBulkEntry {H : Type} : Lit × DataW H → Nat
  | (.string bytes, d) => bytes.length + uptoBulk d + 1
  | (_, d) => uptoBulk d + 1
 end
def uptoSmall : (H : Type) → List (DataW H) → Bool := fun _ ds => decide (uptoBulkAll ds ≤ 1048576)
def OpenSpec.upto (s : _root_.Go.ChangeSpec) : _root_.Go.OpenSpec := { _root_.Go.OpenSpec.ofChange s with cond := some uptoSmall }

/-- 'musterlaw03.RadixWakes', WHERE WHAT IT READS IS OF BULK AT MOST 1048576: true; the input reads as it did. -/
def radixWakesUptoRow : OpenClaim := { program := "ytedgaiblcpekaab", sum := "a8846bfba0f712fd870cc078f66cfa1d6d59eab0c78e8f5f73cd9fb3ce3a7dee", func := "muster/musterlaw03.RadixWakes", spec := "radixWakes", inPlace := ["sync/atomic.LoadUint32", "(*internal/sync.Mutex).Lock", "internal/race.Disable", "sync/atomic.CompareAndSwapInt32", "internal/race.Enable", "internal/race.Acquire", "(*internal/sync.Mutex).lockSlow", "internal/sync.runtime_canSpin", "internal/sync.runtime_doSpin", "internal/sync.throw", "internal/sync.runtime_nanotime", "internal/sync.runtime_SemacquireMutex", "sync/atomic.AddInt32", "(*internal/sync.Mutex).Unlock", "internal/race.ReleaseMerge", "(*internal/sync.Mutex).unlockSlow", "internal/sync.fatal", "internal/sync.runtime_Semrelease", "sync/atomic.StoreUint32"], unfollowed := true, recurses := true, apart := false, narrowed := true }
def RadixWakesUptoSaid : Prop := radixWakesUptoRow.holds Try.pinned (OpenSpec.upto radixWakesSpec)

/-- 'musterlaw03.RadixAny', WHERE WHAT IT READS IS OF BULK AT MOST 1048576: true; the input reads as it did. -/
def radixAnyUptoRow : OpenClaim := { program := "ytedgaiblcpekaab", sum := "a8846bfba0f712fd870cc078f66cfa1d6d59eab0c78e8f5f73cd9fb3ce3a7dee", func := "muster/musterlaw03.RadixAny", spec := "radixAny", unfollowed := true, recurses := true, apart := false, narrowed := true }
def RadixAnyUptoSaid : Prop := radixAnyUptoRow.holds Try.pinned (OpenSpec.upto radixAnySpec)

end Rows
end Go.Proofs.Ytedgaiblcpekaab
