/- Layer 9 (records): RecordsNames, the walk. -/
import Derived.Test.YtdomajhffmfbbaaDoorRcFixed
namespace Go.Proofs.YtdomajhffmfbbaaDoor
open Go.RowKit
set_option linter.unusedVariables false

set_option maxRecDepth 100000 in
set_option maxHeartbeats 1000000 in
theorem recordsNames_calls (w : World) (hv : Vs w) :
    Calls Tryd.prog 3 #[] w fun e w' => e = .returned (.bool true) ∧ Below w.heap.size w w' := by
  go_enter Tryd.func3, Tryd.ntmps3
  go_wp2_with fail
  refine (recordsFixed_calls w hv).mono ?_
  rintro e w1 ⟨rfl, hb1⟩
  have HB1 : Hid (Below w.heap.size w w1) := hb1
  clear hb1
  go_wp2
  go_ret
  exact ⟨rfl, HB1.out⟩
end Go.Proofs.YtdomajhffmfbbaaDoor
