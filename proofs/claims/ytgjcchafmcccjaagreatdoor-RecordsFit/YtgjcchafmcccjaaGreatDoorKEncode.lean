/- The walks of Encode and Begin. -/
import Derived.Test.YtgjcchafmcccjaaGreatDoorKPartsG
namespace Go.Proofs.YtgjcchafmcccjaaGreatDoor
open Go.RowKit
set_option linter.unusedVariables false

set_option maxHeartbeats 400000 in
theorem encode_calls (ao : Option Addr) (cap : Nat) (ps : List Pt) (w : World) (hl : ps.length ≤ 4398046511104) (hp : PartsAt w ao ps) :
    Calls Tryz.prog 39 #[.slice ao ps.length cap] w fun e w' => e = .returned (.tuple #[.string ⟨(encAns false ps).1.toArray⟩, .int .i64 (encAns false ps).2]) ∧ Below w.heap.size w w' := by
  go_enter Tryz.func39, Tryz.ntmps39
  go_wp2_with fail
  refine (write_calls ao cap ps false w hl hp).mono ?_
  rintro e w1 ⟨rfl, hb1⟩
  go_wp2
  go_ret2
  exact ⟨rfl, hb1⟩
end Go.Proofs.YtgjcchafmcccjaaGreatDoor
