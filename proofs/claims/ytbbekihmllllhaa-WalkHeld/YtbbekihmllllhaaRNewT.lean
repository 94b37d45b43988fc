/- Layer 3 (radix): New. -/
import Derived.Test.YtbbekihmllllhaaRInsM
namespace Go.Proofs.Ytbbekihmllllhaa
open Go.RowKit
set_option linter.unusedVariables false

/-- New: a tree of one node. -/
theorem newTree_calls (w : World) : Calls Try.prog 28 #[] w fun e w' => ∃ tb a g, e = .returned (.pointer (some ⟨tb, 0, none⟩)) ∧ Below w.heap.size w w' ∧ TreeAt w' tb (.nd a ⟨#[]⟩ none [] g) 0 ∧ w.heap.size ≤ tb ∧ w.heap.size ≤ a ∧ w.heap.size ≤ g := by
  go_enter Try.func28, Try.ntmps28
  go_wp2_with fail
  refine (newNode_calls _ _ _ _ _ w).mono ?_
  rintro e w1 ⟨rfl, hb1, hs1, hn1, hw1⟩
  have H1 : Hid (Below w.heap.size w w1 ∧ w1.heap.size = w.heap.size + 3 ∧ TAt nR w1 (.nd (w.heap.size + 2) ⟨#[]⟩ none [] (w.heap.size + 1))) :=
    ⟨hb1, hs1, TAt.laid (x := ⟨none, 0, []⟩) hn1 ⟨fun i hi => by simp at hi, Nat.le_refl _, fun _ => rfl⟩ (fun y hy => by cases hy) hw1 (fun t ht => by simp at ht) (by decide)⟩
  clear hb1 hs1 hn1 hw1
  go_wp2
  go_ret
  obtain ⟨hb1, hs1, hT⟩ := H1.out
  have h2 : Below w1.heap.size w1 (w1.alloc (.cells #[.pointer (some ⟨w.heap.size + 2, 0, none⟩), .int .i64 0] 78)) := (Below.refl _ _).alloc (Nat.le_refl _) _
  exact ⟨w1.heap.size, w.heap.size + 2, w.heap.size + 1, rfl, hb1.trans (h2.mono hb1.size), ⟨heap_alloc_new _ _, hT.keep h2⟩, hb1.size, by omega, by omega⟩
end Go.Proofs.Ytbbekihmllllhaa
