/- A range over a function turns its own record and its block of deferred calls alone: what is held between two rounds need abide no more than that (so channels may be held). -/
import Derived.RangeFuncWrites
namespace Go.Proofs.YtpnmkfbdfggnaaaGreat
open Go.RowKit
set_option linter.unusedVariables false

/-- A loop's record, or its block of deferred calls. -/
def isMark : Obj → Bool
  | .loop _ => true
  | .deferred _ => true
  | _ => false
theorem notCells_of_mark : ∀ {o : Obj}, isMark o = true → o.isCells = false
  | .loop _, _ => rfl
  | .deferred _, _ => rfl
/-- It abides the turn of a mark at or beyond B. -/
def OwnM {β : Type} (B : Nat) (I : β → World → Prop) : Prop :=
  ∀ s W W' row, I s W → W.grownBy W' row → (∀ r, row = some r → B ≤ r ∧ ∃ o : Obj, W.heap[r]? = some o ∧ isMark o = true) → I s W'
theorem OwnM.putObj {β : Type} {B : Nat} {I : β → World → Prop} (h : OwnM B I) {s : β} {W : World} {l : Nat} {o : Obj} (o' : Obj) (hs : I s W) (hB : B ≤ l) (hl : W.heap[l]? = some o) (ho : isMark o = true) : I s (W.putObj l o') :=
  h s W _ (some l) hs (grownBy_putObj' W l o') (fun r e => by cases e; exact ⟨hB, o, hl, ho⟩)
theorem OwnM.alloc {β : Type} {B : Nat} {I : β → World → Prop} (h : OwnM B I) {s : β} {W : World} (o : Obj) (hs : I s W) : I s (W.alloc o) :=
  h s W _ none hs (World.grownBy_alloc W o none) (fun r e => by cases e)
theorem OwnM.and {β : Type} {B : Nat} {I I' : β → World → Prop} (h : OwnM B I) (h' : OwnM B I') : OwnM B (fun s W => I s W ∧ I' s W) := fun s W W' row hs hg hr => ⟨h s W W' row hs.1 hg hr, h' s W W' row hs.2 hg hr⟩
theorem cell_keptM {W W' : World} {row : Option Nat} {a : Addr} {v : Value} (h : W.cell? a = some v) (hg : W.grownBy W' row) (hr : ∀ r, row = some r → ∃ o : Obj, W.heap[r]? = some o ∧ isMark o = true) : W'.cell? a = some v :=
  cell_kept h hg fun r e => by
    obtain ⟨o, h1, h2⟩ := hr r e
    exact ⟨o, h1, notCells_of_mark h2⟩
/-- Whatever is no mark stays. -/
theorem obj_keptM {W W' : World} {row : Option Nat} {b : Nat} {o : Obj} (h : W.heap[b]? = some o) (ho : isMark o = false) (hg : W.grownBy W' row) (hr : ∀ r, row = some r → ∃ o : Obj, W.heap[r]? = some o ∧ isMark o = true) : W'.heap[b]? = some o := by
  have hlt : b < W.heap.size := by
    rcases Nat.lt_or_ge b W.heap.size with h' | h'
    · exact h'
    · rw [Array.getElem?_eq_none h'] at h; cases h
  refine (hg.block b hlt (fun e => ?_)).trans h
  obtain ⟨o', h1, h2⟩ := hr b e.symm
  rw [h] at h1
  cases h1
  rw [ho] at h2
  cases h2
end Go.Proofs.YtpnmkfbdfggnaaaGreat
