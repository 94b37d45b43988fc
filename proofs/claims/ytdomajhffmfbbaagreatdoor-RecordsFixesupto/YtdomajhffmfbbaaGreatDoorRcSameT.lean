/- The document's SameTexts, of like lists. -/
import Derived.Test.YtdomajhffmfbbaaGreatDoorSGenB
import Derived.Deep.QuietTactic
import Derived.BigQuiet
namespace Go.Proofs.YtdomajhffmfbbaaGreatDoor
open Go.RowKit
set_option linter.unusedVariables false

set_option maxRecDepth 100000 in
set_option maxHeartbeats 1000000 in
theorem sameTexts_calls (ao bo : Option Addr) (c d : Nat) (xs : List ByteArray) (w : World) (hl : xs.length ≤ 8796093022208) (ha : CellsAt w ao (xs.map Value.string)) (hb : CellsAt w bo (xs.map Value.string)) :
    Calls Tryz.prog 29 #[.slice ao xs.length c, .slice bo xs.length d] w fun e w' => e = .returned (.bool true) ∧ Below w.heap.size w w' := by
  have HA : Hid (CellsAt w ao (xs.map Value.string)) := ha
  have HC : Hid (CellsAt w bo (xs.map Value.string)) := hb
  clear ha hb
  obtain ⟨n, hn⟩ : ∃ n, n = xs.length := ⟨_, rfl⟩
  have HN : Hid (n = xs.length) := hn
  rw [← hn] at hl ⊢
  clear hn
  have q1 : ((n : Int) == (n : Int)) = true := beq_self_eq_true _
  go_enter Tryz.func29, Tryz.ntmps29
  go_wp2
  go_loopw [5] (fun i wr => ∃ k : Nat, k ≤ n ∧ i = .int .i64 k ∧ Hid (Below w.heap.size w wr)) (fun i _ => n - (intOf i).toNat)
  case atStart => exact ⟨0, Nat.zero_le _, rfl, Below.refl _ _⟩
  case round =>
    obtain ⟨k, hk, rfl, HB⟩ := hrel
    by_cases hlt : k < n
    · have hlt' : k < xs.length := by rw [← HN.out]; exact hlt
      obtain ⟨ab, af, rfl, c0⟩ := (HA.out.below HB.out).str k hlt'
      obtain ⟨bb, bf, rfl, c1⟩ := (HC.out.below HB.out).str k hlt'
      have hi1 : (k : Int) < (n : Int) := by omega
      have hi0 : (0 : Int) ≤ (k : Int) := by omega
      have hi2 : (0 : Int) ≤ (k : Int) ∧ (k : Int) < (n : Int) := ⟨hi0, hi1⟩
      generalize xs[k] = x at *
      have q2 : (x.toList == x.toList) = true := beq_self_eq_true _
      go_wp2
      go_quiet (fail)
      go_wp2
      go_roundw
      case rel => exact ⟨k + 1, by omega, by go_num, by first | exact HB | exact below_drewN HB.out _⟩
      case measure => simp [intOf]; omega
    · go_wp2
      go_ret
      exact ⟨rfl, HB.out⟩
end Go.Proofs.YtdomajhffmfbbaaGreatDoor
