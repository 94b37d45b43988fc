/- The walk of keysFixed. -/
import Derived.Test.YtehbclliiphglabKEncode
import Derived.KernelRfl
namespace Go.Proofs.Ytehbclliiphglab
open Go.RowKit
set_option linter.unusedVariables false

def fixPs : List Pt := [⟨1, ⟨#[97, 0]⟩, 0⟩, ⟨2, ⟨#[]⟩, 258⟩]
theorem fix_ans : encAns false fixPs = ([1, 97, 0, 255, 0, 1, 2, 0, 0, 0, 0, 0, 0, 1, 2], 0) := by kernel_rfl

theorem fix_parts (w : World) : PartsAt (w.alloc (.cells #[.int .i64 1, .string ⟨#[97, 0]⟩, .int .u64 0, .int .i64 2, .string ⟨#[]⟩, .int .u64 258] 33)) (some ⟨w.heap.size, 0, none⟩) fixPs := by
  intro i p hp
  refine ⟨w.heap.size, 0, rfl, ?_⟩
  match i, hp with
  | 0, hp =>
    simp [fixPs] at hp; subst hp
    refine ⟨?_, ?_, ?_, ?_⟩
    · rw [World.cell?_alloc_mark]; rfl
    · rw [World.cell?_alloc_mark]; rfl
    · rw [World.cell?_alloc_mark]; rfl
    · refine ⟨by decide, by decide, ?_⟩
      show 2 ≤ _; omega
  | 1, hp =>
    simp [fixPs] at hp; subst hp
    refine ⟨?_, ?_, ?_, ?_⟩
    · rw [World.cell?_alloc_mark]; rfl
    · rw [World.cell?_alloc_mark]; rfl
    · rw [World.cell?_alloc_mark]; rfl
    · refine ⟨by decide, by decide, ?_⟩
      show 0 ≤ _; omega
  | (n + 2), hp => simp [fixPs] at hp

set_option maxHeartbeats 400000 in
theorem keysFixed_calls (w : World) :
    Calls Try.prog 7 #[] w fun e w' => e = .returned (.bool true) ∧ Below w.heap.size w w' := by
  have hf := fix_parts w
  go_enter Try.func7, Try.ntmps7
  go_wp2_with fail
  refine (encode_calls _ _ fixPs _ (by decide) hf).mono ?_
  rintro e w1 ⟨rfl, hb1⟩
  rw [fix_ans]
  clear hf
  go_wp2
  all_goals go_light
  all_goals go_ret
  all_goals exact ⟨rfl, ((Below.refl _ _).alloc (Nat.le_refl _) _).trans (hb1.mono (by simp))⟩
end Go.Proofs.Ytehbclliiphglab
