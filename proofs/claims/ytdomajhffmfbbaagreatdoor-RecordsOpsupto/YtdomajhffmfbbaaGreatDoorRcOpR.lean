/- Layer 9 (records): what the document's FixOp wants besides. -/
import Derived.Test.YtdomajhffmfbbaaGreatDoorRcOpL
import Derived.Test.YtdomajhffmfbbaaGreatDoorRcRefS
import Derived.Test.YtdomajhffmfbbaaGreatDoorRcRefC
namespace Go.Proofs.YtdomajhffmfbbaaGreatDoor
open Go.RowKit
set_option linter.unusedVariables false

theorem three_x (a b : ByteArray) : threeE a b xW = idE a b := by
  rw [← three_id, xW_lab]
  unfold orE
  by_cases h : idE a b = 0 <;> simp [h]
theorem threeT_x {a b x : ByteArray} (h : idE a b = 0) : threeT a b xW x = labT x := by
  rw [← three_x] at h
  unfold threeE at h
  unfold threeT
  split at h
  · next h1 => rw [if_pos h1]
  · cases h
end Go.Proofs.YtdomajhffmfbbaaGreatDoor
