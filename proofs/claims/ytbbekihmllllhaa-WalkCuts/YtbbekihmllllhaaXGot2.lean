/- Layer 4 (walk): the slice in which a law gathers entries, where another such slice stands beside it. -/
import Derived.Test.YtbbekihmllllhaaXGot
namespace Go.Proofs.Ytbbekihmllllhaa
open Go.RowKit Go.Shelf
set_option linter.unusedVariables false

/-- The slice lies in the box bg, its entries lie in memory that is newer than A; all that is older than A but the box is as it was. -/
structure Go2 (w₀ A : World) (bg : Nat) (l : List En) (W : World) : Prop where
  below : Below w₀.heap.size w₀ W
  size : A.heap.size ≤ W.heap.size
  kept : ∀ b, b < A.heap.size → b ≠ bg → W.heap[b]? = A.heap[b]?
  got : ∃ ao n cap, W.heap[bg]? = some (.cells #[.slice ao n cap] 22) ∧ OwnE W A.heap.size (.slice ao n cap) l
theorem Go2.ownFrom {w₀ A : World} {bg B : Nat} (hA : w₀.heap.size ≤ A.heap.size) (hB : A.heap.size ≤ B) : OwnFrom B (fun (l : List En) W => Go2 w₀ A bg l W) := fun l X C row hs hg hr => by
  obtain ⟨ao, n, cap, h1, h2⟩ := hs.got
  have hsz := hg.size
  refine ⟨hs.below.grown hg hs.below.size (fun r e => by have := (hr r e).1; omega), Nat.le_trans hs.size hsz, fun b hb hne => (hg.block b (Nat.lt_of_lt_of_le hb hs.size) (fun e => by have := (hr b e.symm).1; omega)).trans (hs.kept b hb hne), ao, n, cap, heap_kept h1 hg (fun r e => (hr r e).2), World.ownsRow.kept h2 hg ?_⟩
  rcases h2.2 with ⟨h3, _⟩ | ⟨g, cap', cur, h3, _, hgb, _⟩
  · exact .inl (by rw [h3]; rfl)
  · refine .inr fun e' => ?_
    rw [h3] at e'
    obtain ⟨-, o, ho, hc⟩ := hr g (by simpa [Value.ownBlock] using e'.symm)
    rw [hgb] at ho; cases ho; cases hc
/-- What an append and the store back leave. -/
theorem Go2.appended {w₀ A W w1 : World} {bg : Nat} {l : List En} {ao : Option Addr} {n cap : Nat} {ao' : Option Addr} {n' cap' : Nat} {k : ByteArray} {v : Int} {tmp : Obj} {m : Nat} (hm : m = l.length + 1) (hbg : w₀.heap.size ≤ bg) (hA : w₀.heap.size ≤ A.heap.size) (hb : Below w₀.heap.size w₀ W) (hsA : A.heap.size ≤ W.heap.size) (hk : ∀ b, b < A.heap.size → b ≠ bg → W.heap[b]? = A.heap[b]?)
    (hbox : W.heap[bg]? = some (.cells #[.slice ao n cap] 22)) (hown : OwnE W A.heap.size (.slice ao n cap) l)
    (ho : w1.ownsRow A.heap.size 35 2 (.slice ao' n' cap') m (enCells l ++ [.string k, .int .i64 v])) (hg : (W.alloc tmp).grownBy w1 (Value.slice ao n cap).ownBlock) :
    w1.heap[bg]? = some (.cells #[.slice ao n cap] 22) ∧ KeepsOthers W (w1.setCell ⟨bg, 0, none⟩ (.slice ao' n' cap')) ∧ Kp w₀.heap.size (fun _ => False) W (w1.setCell ⟨bg, 0, none⟩ (.slice ao' n' cap')) ∧ Go2 w₀ A bg (l ++ [(k, v)]) (w1.setCell ⟨bg, 0, none⟩ (.slice ao' n' cap')) := by
  subst hm
  have typed : ∀ r, (Value.slice ao n cap).ownBlock = some r → A.heap.size ≤ r ∧ ∃ cs, W.heap[r]? = some (.cells cs 35) := fun r hr => ⟨(World.ownsRow.lt hown r hr).1, ownsRow_typed hown r hr⟩
  have kept : ∀ b, b < W.heap.size → some b ≠ (Value.slice ao n cap).ownBlock → w1.heap[b]? = W.heap[b]? := fun b hlt hne => (hg.block b (by simp; omega) hne).trans (Below.heap_alloc _ _ _ hlt)
  have keptT : ∀ (b : Nat) (cs : Array Value) (ty : TypeId), W.heap[b]? = some (.cells cs ty) → ty ≠ 35 → w1.heap[b]? = some (.cells cs ty) := fun b cs ty hbk hty => (kept b (lt_of_heap hbk) (fun e => by
    obtain ⟨ds, hd⟩ := (typed b e.symm).2
    rw [hbk] at hd
    simp at hd
    exact hty hd.2)).trans hbk
  have box1 := keptT bg _ _ hbox (by decide)
  have hsz : W.heap.size ≤ w1.heap.size := by have := hg.size; simp at this; omega
  have below1 : Below w₀.heap.size W w1 := ((Below.refl _ W).alloc hb.size tmp).grown hg (by have := hb.size; simp; omega) (fun r e => Nat.le_trans hA (typed r e).1)
  refine ⟨box1, ⟨by rw [size_setCell']; exact hsz, fun b o ho' hc => ?_⟩, ⟨below1.setCell (p := ⟨bg, 0, none⟩) hbg _, fun b cs ty hbk hty _ => ?_⟩, (hb.trans below1).setCell (p := ⟨bg, 0, none⟩) hbg _, by rw [size_setCell']; omega, fun b hbA hne => ?_, ao', n', cap', ?_, ?_⟩
  · rw [heap_setCell_other _ _ _ _ (fun e => by
      have e' : b = bg := e
      subst e'
      rw [hbox] at ho'; cases ho'; cases hc)]
    exact (kept b (lt_of_heap ho') (fun e => by
      obtain ⟨ds, hd⟩ := (typed b e.symm).2
      rw [ho'] at hd; cases hd; cases hc)).trans ho'
  · have hne : ty ≠ 35 ∧ ty ≠ 22 := by
      rcases hty with rfl | rfl | rfl | rfl <;> exact ⟨by decide, by decide⟩
    rw [heap_setCell_other _ _ _ _ (fun e => by
      have e' : b = bg := e
      subst e'
      rw [hbox] at hbk
      simp at hbk
      exact hne.2 hbk.2.symm), keptT b cs ty hbk hne.1, hbk]
  · rw [heap_setCell_other _ _ _ _ (fun e => hne e), kept b (by omega) (fun e => by have := (typed b e.symm).1; omega)]
    exact hk b hbA hne
  · rw [setCell_blk box1]; rfl
  · unfold OwnE
    rw [enCells_snoc, List.length_append]
    refine ownsRow_setCell_other ho (fun e => ?_) _
    exact own_ne (ownsRow_typed ho _ e) box1 (by decide) rfl
/-- Nothing is gathered yet. -/
theorem Go2.start {w₀ A : World} {bg : Nat} (hb : Below w₀.heap.size w₀ A) (h : A.heap[bg]? = some (.cells #[.slice none 0 0] 22)) : Go2 w₀ A bg [] A := ⟨hb, Nat.le_refl _, fun _ _ _ => rfl, none, 0, 0, h, World.ownsRow_nil _ _ _ _⟩
theorem Go2.keep {w₀ A W W' : World} {bg : Nat} {l : List En} (h : Go2 w₀ A bg l W) (hb : Below W.heap.size W W') : Go2 w₀ A bg l W' := by
  obtain ⟨ao, n, cap, h1, h2⟩ := h.got
  exact ⟨h.below.trans (hb.mono h.below.size), Nat.le_trans h.size hb.size, fun b hlt hne => (hb.block b (Nat.lt_of_lt_of_le hlt h.size)).trans (h.kept b hlt hne), ao, n, cap, (hb.block _ (lt_of_heap h1)).trans h1, World.ownsRow.kept (row := none) h2 ⟨hb.os, hb.tape, hb.output, hb.size, fun j hj _ => hb.block j hj⟩ (Classical.em _)⟩
/-- Entries stay where all but one box of another kind stays. -/
theorem EntsAt.but {W W' : World} {ao : Option Addr} {l : List En} {bg : Nat} {x : Option Addr} {y z : Nat} {ty : TypeId} (h : EntsAt W ao l) (hbox : W.heap[bg]? = some (.cells #[.slice x y z] ty)) (hk : ∀ b, b < W.heap.size → b ≠ bg → W'.heap[b]? = W.heap[b]?) : EntsAt W' ao l := fun i hi => by
  obtain ⟨b, off, h1, h2, h3, h4⟩ := h i hi
  have hne : b ≠ bg := by
    rintro rfl
    rw [cell_of_blk hbox] at h2
    generalize off + i * 2 = k at h2
    cases k <;> simp at h2
  have e := hk b (World.block_lt_of_cell? W _ h2) hne
  exact ⟨b, off, h1, (World.cell?_of_block (w := W) e).trans h2, (World.cell?_of_block (w := W) e).trans h3, h4⟩
end Go.Proofs.Ytbbekihmllllhaa
