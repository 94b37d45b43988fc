/- Layer 17 (sched): the law on picks. -/
import Derived.Test.YtagdgecmoeacgaaScTurns
namespace Go.Proofs.Ytagdgecmoeacgaa
open Go.RowKit
set_option linter.unusedVariables false
variable {S S' : Nat → Prop}

theorem emptyI (W : World) : Ow (W.alloc (.cells #[] 3)) W.heap.size 3 (.slice (some ⟨W.heap.size, 0, none⟩) 0 0) [] := World.ownsRow_lit (size := 1) W #[] 0 (Nat.le_refl _) (by unfold maxLen; omega) rfl
theorem Ow.shapeI {w : World} {B : Nat} {e : TypeId} {v : Value} {X : List Value} {l : List Int} {n : Nat} (h : Ow w B e v X) (hX : X = l.map iV) (hn : l.length = n) : ∃ ao cap, v = .slice ao n cap ∧ VAt w ao (l.map iV) ∧ (∀ a, ao = some a → B ≤ a.block ∧ a.block < w.heap.size) ∧ (ao = none → cap = 0 ∧ n = 0) := by
  subst hX
  subst hn
  obtain ⟨ao, cap, e, h1, h2, -⟩ := h.shape
  rw [List.length_map] at e h1
  subst e
  exact ⟨ao, cap, rfl, h.v, fun a ea => (h.block a ea).2, fun en => ⟨h2 en, by have := h2 en; omega⟩⟩
theorem drop_len {l : List Int} {k n : Nat} (hn : l.length = n) : ((l.drop k).length : Int) = ((n - k : Nat) : Int) := by rw [List.length_drop, hn]

end Go.Proofs.Ytagdgecmoeacgaa
