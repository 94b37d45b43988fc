/- What was written byte by byte, as a text. -/
import Derived.Test.YtdomajhffmfbbaaGreatDoorKLaw
namespace Go.Proofs.YtdomajhffmfbbaaGreatDoor
open Go.RowKit
set_option linter.unusedVariables false

theorem Own.string {w : World} {B : Nat} {v : Value} {l : List UInt8} (h : Own w B v l) : (convert 89 9 v).run Tryz.prog w = .ok (.string ⟨l.toArray⟩) w := by
  rcases h.2 with ⟨rfl, h0⟩ | ⟨g, cap, cur, rfl, _, _, _, _, _, _⟩
  · rw [run_convert_bytes_nil w _ _ Tryz.underlying89 Tryz.underlying5 0 0 _ Tryz.underlying9]
    rw [List.length_eq_zero_iff.1 h0]; rfl
  · refine run_convert_bytes_back w _ _ _ _ _ l Tryz.underlying89 Tryz.underlying5 Tryz.underlying9 ?_
    intro j hj
    refine World.ownsRow.cells h (g := g) rfl j _ ?_
    simp [bs, hj]

end Go.Proofs.YtdomajhffmfbbaaGreatDoor
