/- Layer 6 (schema): what the document's line comes to. -/
import Derived.Test.YtbpmahchinblhaaDoorSRIndex
namespace Go.Proofs.YtbpmahchinblhaaDoor
open Go.RowKit
set_option linter.unusedVariables false

/-- What line answers, by what the line comes to. -/
def LineR (B : Nat) (w : World) (o : Out) (e : Ending) (w' : World) : Prop :=
  match o with
  | .error (l, c) => Fr B w w' ∧ ∃ v, e = .returned (.tuple #[v, .int .i64 c])
  | .ok st => Fr B w w' ∧ ∃ v ts, e = .returned (.tuple #[v, .int .i64 0]) ∧ tbs ts = st.1 ∧ Tabs w' B v ts

theorem row_fr {B B' : Nat} {w w' : World} {v : Value} {n : Nat} {l : List Value} (h : w.ownsRow B 9 1 v n l) (hf : Fr B' w w') : w'.ownsRow B 9 1 v n l := by
  refine ⟨h.1, ?_⟩
  rcases h.2 with h | ⟨g, cap, cur, hv, hb, hg, r⟩
  · exact .inl h
  · exact .inr ⟨g, cap, cur, hv, hb, hf.strs g cur hg, r⟩
theorem words_cell {w : World} {g : Nat} {ws : List ByteArray} (hc : CellsAt w (some ⟨g, 0, none⟩) (ws.map Value.string)) (k : Nat) (h : k < ws.length) : w.cell? ⟨g, k, none⟩ = some (.string ws[k]) := by
  obtain ⟨b1, o1, e, c⟩ := hc.str k h
  simp only [Option.some.injEq, Addr.mk.injEq] at e
  obtain ⟨rfl, rfl, _⟩ := e
  simpa using c
theorem cell_set_other {w : World} {b i c j : Nat} {v x : Value} (h : w.cell? ⟨b, i, none⟩ = some x) (hne : b ≠ c) : (w.setCell ⟨c, j, none⟩ v).cell? ⟨b, i, none⟩ = some x := by
  have := heap_setCell_other w ⟨c, j, none⟩ b v (by simpa using hne)
  simp only [World.cell?] at h ⊢
  rw [this]
  exact h
end Go.Proofs.YtbpmahchinblhaaDoor
