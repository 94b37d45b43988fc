import Derived.Test.YtnmndjplbcpglaaXThese
import Derived.Test.YtnmndjplbcpglaaXAlive4
/- Layer 4 (walk): the slice in which a law gathers entries. -/
namespace Go.Proofs.Ytnmndjplbcpglaa
open Go.RowKit Go.Shelf
set_option linter.unusedVariables false
attribute [local go_sem] Oper.semAt_some

def enCells (l : List En) : List Value := l.flatMap fun e => [.string e.1, .int .i64 e.2]
theorem enCells_length (l : List En) : (enCells l).length = l.length * 2 := by
  induction l with
  | nil => rfl
  | cons e l ih => simp only [enCells, List.flatMap_cons, List.length_append, List.length_cons, List.length_nil] at ih ⊢; omega
theorem enCells_snoc (l : List En) (e : En) : enCells (l ++ [e]) = enCells l ++ [.string e.1, .int .i64 e.2] := by simp [enCells]
theorem enCells_get (l : List En) : ∀ (i : Nat) (h : i < l.length), (enCells l)[i * 2]? = some (.string l[i].1) ∧ (enCells l)[i * 2 + 1]? = some (.int .i64 l[i].2) := by
  induction l with
  | nil => intro i h; simp at h
  | cons e l ih =>
    intro i h
    have hc : enCells (e :: l) = .string e.1 :: .int .i64 e.2 :: enCells l := rfl
    rw [hc]
    cases i with
    | zero => exact ⟨rfl, rfl⟩
    | succ i =>
      have := ih i (by simpa using h)
      rw [show (i + 1) * 2 = i * 2 + 1 + 1 by omega]
      simpa using this
def OwnE (W : World) (B : Nat) (v : Value) (l : List En) : Prop := W.ownsRow B 35 2 v l.length (enCells l)
theorem infoE : (Try.prog.info? 35).map (fun i => (i.zero, i.size, i.bytes)) = some (some (.agg #[.string ⟨#[]⟩, .int .i64 0]), 2, 24) := by kernel_rfl
theorem OwnE.ents {W : World} {B : Nat} {v : Value} {l : List En} (h : OwnE W B v l) (hz : ∀ e ∈ l, e.1.size ≤ 140737488351296) : ∃ ao cap, v = .slice ao l.length cap ∧ EntsAt W ao l := by
  rcases h.2 with ⟨rfl, h0⟩ | ⟨g, cap, cur, rfl, hb, hg, hnc, hcm, hcs, htake⟩
  · exact ⟨none, 0, by rw [h0], fun i hi => by omega⟩
  · refine ⟨_, cap, rfl, fun i hi => ⟨g, 0, rfl, ?_, ?_, hz _ (List.getElem_mem hi)⟩⟩
    · have h1 := World.ownsRow.cellAt h (i * 2) (by omega)
      rw [(enCells_get l i hi).1] at h1
      rw [Nat.zero_add]; exact h1
    · have h1 := World.ownsRow.cellAt h (i * 2 + 1) (by omega)
      rw [(enCells_get l i hi).2] at h1
      rw [Nat.zero_add]; exact h1
theorem entry_new (W : World) (k : ByteArray) (v : Int) : ∀ j u, ([Value.string k, Value.int .i64 v] : List Value)[j]? = some u → (W.alloc (.cells #[.string k, .int .i64 v] 35)).cell? ((⟨W.heap.size, 0, none⟩ : Addr).add j) = some u := cells_new W [.string k, .int .i64 v] 35

/-- The law's own slice lies in its box. -/
structure GoI (w₀ : World) (bg : Nat) (l : List En) (W : World) : Prop where
  below : Below w₀.heap.size w₀ W
  got : ∃ ao n cap, W.heap[bg]? = some (.cells #[.slice ao n cap] 22) ∧ OwnE W w₀.heap.size (.slice ao n cap) l
theorem GoI.ownFrom {w₀ : World} {bg B : Nat} (hB : w₀.heap.size ≤ B) : OwnM B (fun (l : List En) W => GoI w₀ bg l W) := fun l A C row hs hg hr => by
  obtain ⟨ao, n, cap, h1, h2⟩ := hs.got
  refine ⟨hs.below.grown hg hs.below.size (fun r e => by have := (hr r e).1; omega), ao, n, cap, heap_kept h1 hg (fun r e => (hr r e).2), World.ownsRow.kept h2 hg ?_⟩
  rcases h2.2 with ⟨h3, _⟩ | ⟨g, cap', cur, h3, _, hgb, _⟩
  · exact .inl (by rw [h3]; rfl)
  · refine .inr fun e' => ?_
    rw [h3] at e'
    obtain ⟨-, o, ho, hc⟩ := hr g (by simpa [Value.ownBlock] using e'.symm)
    rw [hgb] at ho; cases ho; cases hc
/-- What an append and the store back leave. -/
theorem GoI.appended {w₀ W w1 : World} {bg : Nat} {l : List En} {ao : Option Addr} {n cap : Nat} {ao' : Option Addr} {n' cap' : Nat} {k : ByteArray} {v : Int} {tmp : Obj} {m : Nat} (hm : m = l.length + 1) (hbg : w₀.heap.size ≤ bg) (hb : Below w₀.heap.size w₀ W) (hbox : W.heap[bg]? = some (.cells #[.slice ao n cap] 22)) (hown : OwnE W w₀.heap.size (.slice ao n cap) l)
    (ho : w1.ownsRow w₀.heap.size 35 2 (.slice ao' n' cap') m (enCells l ++ [.string k, .int .i64 v])) (hg : (W.alloc tmp).grownBy w1 (Value.slice ao n cap).ownBlock) :
    w1.heap[bg]? = some (.cells #[.slice ao n cap] 22) ∧ KeepsOthers W (w1.setCell ⟨bg, 0, none⟩ (.slice ao' n' cap')) ∧ Kp w₀.heap.size (fun _ => False) W (w1.setCell ⟨bg, 0, none⟩ (.slice ao' n' cap')) ∧ GoI w₀ bg (l ++ [(k, v)]) (w1.setCell ⟨bg, 0, none⟩ (.slice ao' n' cap')) := by
  subst hm
  have typed : ∀ r, (Value.slice ao n cap).ownBlock = some r → w₀.heap.size ≤ r ∧ ∃ cs, W.heap[r]? = some (.cells cs 35) := fun r hr => ⟨(World.ownsRow.lt hown r hr).1, ownsRow_typed hown r hr⟩
  have kept : ∀ b, b < W.heap.size → some b ≠ (Value.slice ao n cap).ownBlock → w1.heap[b]? = W.heap[b]? := fun b hlt hne => (hg.block b (by simp; omega) hne).trans (Below.heap_alloc _ _ _ hlt)
  have keptT : ∀ (b : Nat) (cs : Array Value) (ty : TypeId), W.heap[b]? = some (.cells cs ty) → ty ≠ 35 → w1.heap[b]? = some (.cells cs ty) := fun b cs ty hbk hty => (kept b (lt_of_heap hbk) (fun e => by
    obtain ⟨ds, hd⟩ := (typed b e.symm).2
    rw [hbk] at hd
    simp at hd
    exact hty hd.2)).trans hbk
  have box1 := keptT bg _ _ hbox (by decide)
  have hsz : W.heap.size ≤ w1.heap.size := by have := hg.size; simp at this; omega
  have below1 : Below w₀.heap.size W w1 := ((Below.refl _ W).alloc hb.size tmp).grown hg (by have := hb.size; simp; omega) (fun r e => (typed r e).1)
  refine ⟨box1, ⟨by rw [size_setCell']; exact hsz, fun b o ho' hc => ?_⟩, ⟨below1.setCell (p := ⟨bg, 0, none⟩) hbg _, fun b cs ty hbk hty _ => ?_⟩, (hb.trans below1).setCell (p := ⟨bg, 0, none⟩) hbg _, ao', n', cap', ?_, ?_⟩
  · rw [heap_setCell_other _ _ _ _ (fun e => by
      have e' : b = bg := e
      subst e'
      rw [hbox] at ho'; cases ho'; cases hc)]
    exact (kept b (lt_of_heap ho') (fun e => by
      obtain ⟨ds, hd⟩ := (typed b e.symm).2
      rw [ho'] at hd; cases hd; cases hc)).trans ho'
  · have hne : ty ≠ 35 ∧ ty ≠ 22 := by
      rcases hty with rfl | rfl | rfl | rfl | rfl | rfl <;> exact ⟨by decide, by decide⟩
    rw [heap_setCell_other _ _ _ _ (fun e => by
      have e' : b = bg := e
      subst e'
      rw [hbox] at hbk
      simp at hbk
      exact hne.2 hbk.2.symm), keptT b cs ty hbk hne.1, hbk]
  · rw [setCell_blk box1]; rfl
  · unfold OwnE
    rw [enCells_snoc, List.length_append]
    refine ownsRow_setCell_other ho (fun e => ?_) _
    exact own_ne (ownsRow_typed ho _ e) box1 (by decide) rfl
end Go.Proofs.Ytnmndjplbcpglaa

/- Layer 4 (walk): the slice in which a law gathers entries, where another such slice stands beside it. -/
namespace Go.Proofs.Ytnmndjplbcpglaa
open Go.RowKit Go.Shelf
set_option linter.unusedVariables false

/-- The slice lies in the box bg, its entries lie in memory that is newer than A; all that is older than A but the box is as it was. -/
structure Go2 (w₀ A : World) (bg : Nat) (l : List En) (W : World) : Prop where
  below : Below w₀.heap.size w₀ W
  size : A.heap.size ≤ W.heap.size
  kept : ∀ b, b < A.heap.size → b ≠ bg → W.heap[b]? = A.heap[b]?
  got : ∃ ao n cap, W.heap[bg]? = some (.cells #[.slice ao n cap] 22) ∧ OwnE W A.heap.size (.slice ao n cap) l
theorem Go2.ownFrom {w₀ A : World} {bg B : Nat} (hA : w₀.heap.size ≤ A.heap.size) (hB : A.heap.size ≤ B) : OwnM B (fun (l : List En) W => Go2 w₀ A bg l W) := fun l X C row hs hg hr => by
  obtain ⟨ao, n, cap, h1, h2⟩ := hs.got
  have hsz := hg.size
  refine ⟨hs.below.grown hg hs.below.size (fun r e => by have := (hr r e).1; omega), Nat.le_trans hs.size hsz, fun b hb hne => (hg.block b (Nat.lt_of_lt_of_le hb hs.size) (fun e => by have := (hr b e.symm).1; omega)).trans (hs.kept b hb hne), ao, n, cap, heap_kept h1 hg (fun r e => (hr r e).2), World.ownsRow.kept h2 hg ?_⟩
  rcases h2.2 with ⟨h3, _⟩ | ⟨g, cap', cur, h3, _, hgb, _⟩
  · exact .inl (by rw [h3]; rfl)
  · refine .inr fun e' => ?_
    rw [h3] at e'
    obtain ⟨-, o, ho, hc⟩ := hr g (by simpa [Value.ownBlock] using e'.symm)
    rw [hgb] at ho; cases ho; cases hc
/-- What an append and the store back leave. -/
theorem Go2.appended {w₀ A W w1 : World} {bg : Nat} {l : List En} {ao : Option Addr} {n cap : Nat} {ao' : Option Addr} {n' cap' : Nat} {k : ByteArray} {v : Int} {tmp : Obj} {m : Nat} (hm : m = l.length + 1) (hbg : w₀.heap.size ≤ bg) (hA : w₀.heap.size ≤ A.heap.size) (hb : Below w₀.heap.size w₀ W) (hsA : A.heap.size ≤ W.heap.size) (hk : ∀ b, b < A.heap.size → b ≠ bg → W.heap[b]? = A.heap[b]?)
    (hbox : W.heap[bg]? = some (.cells #[.slice ao n cap] 22)) (hown : OwnE W A.heap.size (.slice ao n cap) l)
    (ho : w1.ownsRow A.heap.size 35 2 (.slice ao' n' cap') m (enCells l ++ [.string k, .int .i64 v])) (hg : (W.alloc tmp).grownBy w1 (Value.slice ao n cap).ownBlock) :
    w1.heap[bg]? = some (.cells #[.slice ao n cap] 22) ∧ KeepsOthers W (w1.setCell ⟨bg, 0, none⟩ (.slice ao' n' cap')) ∧ Kp w₀.heap.size (fun _ => False) W (w1.setCell ⟨bg, 0, none⟩ (.slice ao' n' cap')) ∧ Go2 w₀ A bg (l ++ [(k, v)]) (w1.setCell ⟨bg, 0, none⟩ (.slice ao' n' cap')) := by
  subst hm
  have typed : ∀ r, (Value.slice ao n cap).ownBlock = some r → A.heap.size ≤ r ∧ ∃ cs, W.heap[r]? = some (.cells cs 35) := fun r hr => ⟨(World.ownsRow.lt hown r hr).1, ownsRow_typed hown r hr⟩
  have kept : ∀ b, b < W.heap.size → some b ≠ (Value.slice ao n cap).ownBlock → w1.heap[b]? = W.heap[b]? := fun b hlt hne => (hg.block b (by simp; omega) hne).trans (Below.heap_alloc _ _ _ hlt)
  have keptT : ∀ (b : Nat) (cs : Array Value) (ty : TypeId), W.heap[b]? = some (.cells cs ty) → ty ≠ 35 → w1.heap[b]? = some (.cells cs ty) := fun b cs ty hbk hty => (kept b (lt_of_heap hbk) (fun e => by
    obtain ⟨ds, hd⟩ := (typed b e.symm).2
    rw [hbk] at hd
    simp at hd
    exact hty hd.2)).trans hbk
  have box1 := keptT bg _ _ hbox (by decide)
  have hsz : W.heap.size ≤ w1.heap.size := by have := hg.size; simp at this; omega
  have below1 : Below w₀.heap.size W w1 := ((Below.refl _ W).alloc hb.size tmp).grown hg (by have := hb.size; simp; omega) (fun r e => Nat.le_trans hA (typed r e).1)
  refine ⟨box1, ⟨by rw [size_setCell']; exact hsz, fun b o ho' hc => ?_⟩, ⟨below1.setCell (p := ⟨bg, 0, none⟩) hbg _, fun b cs ty hbk hty _ => ?_⟩, (hb.trans below1).setCell (p := ⟨bg, 0, none⟩) hbg _, by rw [size_setCell']; omega, fun b hbA hne => ?_, ao', n', cap', ?_, ?_⟩
  · rw [heap_setCell_other _ _ _ _ (fun e => by
      have e' : b = bg := e
      subst e'
      rw [hbox] at ho'; cases ho'; cases hc)]
    exact (kept b (lt_of_heap ho') (fun e => by
      obtain ⟨ds, hd⟩ := (typed b e.symm).2
      rw [ho'] at hd; cases hd; cases hc)).trans ho'
  · have hne : ty ≠ 35 ∧ ty ≠ 22 := by
      rcases hty with rfl | rfl | rfl | rfl | rfl | rfl <;> exact ⟨by decide, by decide⟩
    rw [heap_setCell_other _ _ _ _ (fun e => by
      have e' : b = bg := e
      subst e'
      rw [hbox] at hbk
      simp at hbk
      exact hne.2 hbk.2.symm), keptT b cs ty hbk hne.1, hbk]
  · rw [heap_setCell_other _ _ _ _ (fun e => hne e), kept b (by omega) (fun e => by have := (typed b e.symm).1; omega)]
    exact hk b hbA hne
  · rw [setCell_blk box1]; rfl
  · unfold OwnE
    rw [enCells_snoc, List.length_append]
    refine ownsRow_setCell_other ho (fun e => ?_) _
    exact own_ne (ownsRow_typed ho _ e) box1 (by decide) rfl
/-- Nothing is gathered yet. -/
theorem Go2.start {w₀ A : World} {bg : Nat} (hb : Below w₀.heap.size w₀ A) (h : A.heap[bg]? = some (.cells #[.slice none 0 0] 22)) : Go2 w₀ A bg [] A := ⟨hb, Nat.le_refl _, fun _ _ _ => rfl, none, 0, 0, h, World.ownsRow_nil _ _ _ _⟩
theorem Go2.keep {w₀ A W W' : World} {bg : Nat} {l : List En} (h : Go2 w₀ A bg l W) (hb : Below W.heap.size W W') : Go2 w₀ A bg l W' := by
  obtain ⟨ao, n, cap, h1, h2⟩ := h.got
  exact ⟨h.below.trans (hb.mono h.below.size), Nat.le_trans h.size hb.size, fun b hlt hne => (hb.block b (Nat.lt_of_lt_of_le hlt h.size)).trans (h.kept b hlt hne), ao, n, cap, (hb.block _ (lt_of_heap h1)).trans h1, World.ownsRow.kept (row := none) h2 ⟨hb.os, hb.tape, hb.output, hb.size, fun j hj _ => hb.block j hj⟩ (Classical.em _)⟩
/-- Entries stay where all but one box of another kind stays. -/
theorem EntsAt.but {W W' : World} {ao : Option Addr} {l : List En} {bg : Nat} {x : Option Addr} {y z : Nat} {ty : TypeId} (h : EntsAt W ao l) (hbox : W.heap[bg]? = some (.cells #[.slice x y z] ty)) (hk : ∀ b, b < W.heap.size → b ≠ bg → W'.heap[b]? = W.heap[b]?) : EntsAt W' ao l := fun i hi => by
  obtain ⟨b, off, h1, h2, h3, h4⟩ := h i hi
  have hne : b ≠ bg := by
    rintro rfl
    rw [cell_of_blk hbox] at h2
    generalize off + i * 2 = k at h2
    cases k <;> simp at h2
  have e := hk b (World.block_lt_of_cell? W _ h2) hne
  exact ⟨b, off, h1, (World.cell?_of_block (w := W) e).trans h2, (World.cell?_of_block (w := W) e).trans h3, h4⟩
end Go.Proofs.Ytnmndjplbcpglaa
