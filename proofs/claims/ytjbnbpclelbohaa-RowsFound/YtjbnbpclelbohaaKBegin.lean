/- The walk of Begin. -/
import Derived.Test.YtjbnbpclelbohaaKWrite
namespace Go.Proofs.Ytjbnbpclelbohaa
open Go.RowKit
set_option linter.unusedVariables false

set_option maxHeartbeats 400000 in
theorem begin_calls (ao : Option Addr) (cap : Nat) (ps : List Pt) (w : World) (hl : ps.length ≤ 4398046511104) (hp : PartsAt w ao ps) :
    Calls Try.prog 30 #[.slice ao ps.length cap] w fun e w' => e = .returned (.tuple #[.string ⟨(encAns true ps).1.toArray⟩, .int .i64 (encAns true ps).2]) ∧ Below w.heap.size w w' := by
  go_enter Try.func30, Try.ntmps30
  go_wp2_with fail
  refine (write_calls ao cap ps true w hl hp).mono ?_
  rintro e w1 ⟨rfl, hb1⟩
  go_wp2
  go_ret2
  exact ⟨rfl, hb1⟩

end Go.Proofs.Ytjbnbpclelbohaa
