/- Layer 5 (txn): Begin. -/
import Derived.Test.YtdmhffbohnfdlaaGreatTBase
import Derived.Test.YtdmhffbohnfdlaaGreatWSync
namespace Go.Proofs.YtdmhffbohnfdlaaGreat
open Go.RowKit
set_option linter.unusedVariables false

/-- A transaction: its base, its tree, its map of touched keys. -/
structure TxnAt (w : World) (xb bb tb mb : Nat) : Prop where
  blk : w.heap[xb]? = some (.cells #[.pointer (some ⟨bb, 0, none⟩), .pointer (some ⟨tb, 0, none⟩), .map (some mb)] 105)
theorem TxnAt.below {w w' : World} {xb bb tb mb : Nat} (h : TxnAt w xb bb tb mb) (hb : Below w.heap.size w w') : TxnAt w' xb bb tb mb := ⟨(hb.block _ (lt_of_heap h.blk)).trans h.blk⟩
theorem TxnAt.off {w : World} {xb bb tb mb : Nat} {cs ds : Array Value} (h : TxnAt w xb bb tb mb) (h1 : w.heap[bb]? = some (.cells cs 97)) (h2 : w.heap[tb]? = some (.cells ds 125)) : Off w xb :=
  .inr ⟨_, _, h.blk, fun j a hj => by
    rcases j with _ | _ | _ | j <;> simp at hj
    · subst hj; exact ⟨_, _, h1, by decide⟩
    · subst hj; exact ⟨_, _, h2, by decide⟩, by decide, by decide, by decide, by decide⟩

theorem mutex_two {w : World} {bb : Nat} {x0 x1 x3 : Value} (h : w.heap[bb]? = some (.cells #[x0, .int .i32 0, x1, x3] 97)) : (w.setCell ⟨bb, 1, none⟩ (.int .i32 1)).heap[bb]? = some (.cells #[x0, .int .i32 1, x1, x3] 97) := by
  rw [setCell_blk h]; rfl

set_option maxRecDepth 100000 in
set_option maxHeartbeats 2000000 in
/-- A transaction is open already. -/
theorem begin_open (bb vb tb : Nat) (nm : Int) (w : World) (h : BaseAt w bb vb tb nm true) :
    Calls Tryz.prog 11 #[.pointer (some ⟨bb, 0, none⟩)] w fun e w' => e = .returned (.tuple #[.pointer none, .int .i64 50]) ∧ Touched [bb] w w' ∧ BaseAt w' bb vb tb nm true := by
  have c1 : w.cell? ⟨bb, 1, none⟩ = some (.int .i32 0) := by rw [cell_of_blk h.blk]; rfl
  have z1 : w.frozen? ⟨bb, 1, none⟩ = false := frozen_of_blk h.blk
  obtain ⟨w1, HW1⟩ : ∃ w1, Hid (w1 = w.setCell ⟨bb, 1, none⟩ (.int .i32 1)) := ⟨_, rfl⟩
  have b1 : w1.heap[bb]? = some (.cells #[.pointer (some ⟨vb, 0, none⟩), .int .i32 1, .int .u32 0, .bool true] 97) := by rw [HW1.out]; exact mutex_two h.blk
  have d1 : w1.cell? ⟨bb, 1, none⟩ = some (.int .i32 1) := by rw [cell_of_blk b1]; rfl
  have d3 : w1.cell? ⟨bb, 3, none⟩ = some (.bool true) := by rw [cell_of_blk b1]; rfl
  have y1 : w1.frozen? ⟨bb, 1, none⟩ = false := frozen_of_blk b1
  have HF : Hid (Touched [bb] w (w1.setCell ⟨bb, 1, none⟩ (.int .i32 0)) ∧ BaseAt (w1.setCell ⟨bb, 1, none⟩ (.int .i32 0)) bb vb tb nm true) := by
    have hne : vb ≠ bb := fun e => by have := h.ver; rw [e, h.blk] at this; simp at this
    refine ⟨?_, by rw [setCell_blk b1]; rfl, ?_⟩
    · rw [HW1.out]; exact ((Touched.refl _ _).setCell _ _ (.inl (by simp))).setCell _ _ (.inl (by simp))
    · rw [heap_setCell_other _ _ _ _ hne, HW1.out, heap_setCell_other _ _ _ _ hne]; exact h.ver
  clear h b1
  go_enter_defers Tryz.func11, Tryz.ntmps11
  go_wp2_with (first | (go_at_call 36; refine (lock_free ⟨bb, 1, none⟩ _ c1 z1).mono ?_; rintro e w' ⟨rfl, rfl⟩; rw [← HW1.out]))
  refine leaves_cons (f := 37) (args := #[.pointer (some ⟨bb, 1, none⟩)]) (by simp) (by simp [go_sem]) ?_
  refine (unlock_deferred ⟨bb, 1, none⟩ _ _ d1 y1).mono ?_
  rintro e u' w'' ⟨rfl, rfl, rfl⟩
  have hf := HF.out
  simp [Leaves, settle, results, Tryz.results11, go_sem]
  exact hf

set_option maxRecDepth 100000 in
set_option maxHeartbeats 2000000 in
/-- None is open: one is opened. -/
theorem begin_calls (bb vb tb : Nat) (nm : Int) (w : World) (h : BaseAt w bb vb tb nm false) :
    Calls Tryz.prog 11 #[.pointer (some ⟨bb, 0, none⟩)] w fun e w' => ∃ xb mb, e = .returned (.tuple #[.pointer (some ⟨xb, 0, none⟩), .int .i64 0]) ∧ Touched [bb] w w' ∧ BaseAt w' bb vb tb nm true ∧ TxnAt w' xb bb tb mb ∧ w'.heap[mb]? = some (.map #[] 0) ∧ w.heap.size ≤ xb ∧ w.heap.size ≤ mb := by
  have c1 : w.cell? ⟨bb, 1, none⟩ = some (.int .i32 0) := by rw [cell_of_blk h.blk]; rfl
  have z1 : w.frozen? ⟨bb, 1, none⟩ = false := frozen_of_blk h.blk
  have hbl := lt_of_heap h.blk
  obtain ⟨w1, HW1⟩ : ∃ w1, Hid (w1 = w.setCell ⟨bb, 1, none⟩ (.int .i32 1)) := ⟨_, rfl⟩
  have b1 : w1.heap[bb]? = some (.cells #[.pointer (some ⟨vb, 0, none⟩), .int .i32 1, .int .u32 0, .bool false] 97) := by rw [HW1.out]; exact mutex_two h.blk
  have d3 : w1.cell? ⟨bb, 3, none⟩ = some (.bool false) := by rw [cell_of_blk b1]; rfl
  have y3 : w1.frozen? ⟨bb, 3, none⟩ = false := frozen_of_blk b1
  obtain ⟨w2, HW2⟩ : ∃ w2, Hid (w2 = w1.setCell ⟨bb, 3, none⟩ (.bool true)) := ⟨_, rfl⟩
  have b2 : w2.heap[bb]? = some (.cells #[.pointer (some ⟨vb, 0, none⟩), .int .i32 1, .int .u32 0, .bool true] 97) := by rw [HW2.out, setCell_blk b1]; rfl
  have hne : vb ≠ bb := fun e => by have := h.ver; rw [e, h.blk] at this; simp at this
  have v2 : w2.heap[vb]? = some (.cells #[.pointer (some ⟨tb, 0, none⟩), .int .u64 nm] 100) := by
    rw [HW2.out, heap_setCell_other _ _ _ _ hne, HW1.out, heap_setCell_other _ _ _ _ hne]; exact h.ver
  have HTR := tree_cells bb vb tb nm w2 (by rw [cell_of_blk b2]; rfl) v2
  have S2 : Hid (w2.heap.size = w.heap.size) := by rw [HW2.out, HW1.out]; show _ = _; simp
  obtain ⟨w4, HW4⟩ : ∃ w4, Hid (w4 = (w2.alloc (.map #[] 0)).alloc (.cells #[.pointer (some ⟨bb, 0, none⟩), .pointer (some ⟨tb, 0, none⟩), .map (some w2.heap.size)] 105)) := ⟨_, rfl⟩
  have hb4 : Below w2.heap.size w2 w4 := by rw [HW4.out]; exact ((Below.refl _ _).alloc (Nat.le_refl _) _).alloc (by simp [World.size_alloc]) _
  have b4 := (hb4.block _ (lt_of_heap b2)).trans b2
  have d4 : w4.cell? ⟨bb, 1, none⟩ = some (.int .i32 1) := by rw [cell_of_blk b4]; rfl
  have y4 : w4.frozen? ⟨bb, 1, none⟩ = false := frozen_of_blk b4
  have m4 : w4.heap[w2.heap.size]? = some (.map #[] 0) := by rw [HW4.out, Below.heap_alloc _ _ _ (by simp [World.size_alloc])]; exact heap_alloc_new _ _
  have x4 : w4.heap[w2.heap.size + 1]? = some (.cells #[.pointer (some ⟨bb, 0, none⟩), .pointer (some ⟨tb, 0, none⟩), .map (some w2.heap.size)] 105) := by
    rw [HW4.out]; have := heap_alloc_new (w2.alloc (.map #[] 0)) (.cells #[.pointer (some ⟨bb, 0, none⟩), .pointer (some ⟨tb, 0, none⟩), .map (some w2.heap.size)] 105); rwa [World.size_alloc] at this
  have hmk : ∀ W : World, (Instr.makeMap 103 none).run Tryz.prog W = .ok (.map (some W.heap.size)) (W.alloc (.map #[] 0)) := fun W => by simp [Instr.makeMap, Result.andThen]
  have HF : Hid (Touched [bb] w (w4.setCell ⟨bb, 1, none⟩ (.int .i32 0)) ∧ BaseAt (w4.setCell ⟨bb, 1, none⟩ (.int .i32 0)) bb vb tb nm true ∧ TxnAt (w4.setCell ⟨bb, 1, none⟩ (.int .i32 0)) (w2.heap.size + 1) bb tb w2.heap.size ∧ (w4.setCell ⟨bb, 1, none⟩ (.int .i32 0)).heap[w2.heap.size]? = some (.map #[] 0) ∧ w.heap.size ≤ w2.heap.size + 1 ∧ w.heap.size ≤ w2.heap.size) := by
    have s2 := S2.out
    refine ⟨?_, ⟨by rw [setCell_blk b4]; rfl, ?_⟩, ⟨?_⟩, ?_, by omega, by omega⟩
    · rw [HW4.out, HW2.out, HW1.out]
      exact ((((((Touched.refl _ _).setCell _ _ (.inl (by simp))).setCell _ _ (.inl (by simp))).alloc _).alloc _)).setCell _ _ (.inl (by simp))
    · rw [heap_setCell_other _ _ _ _ hne]; exact (hb4.block _ (lt_of_heap v2)).trans v2
    · rw [heap_setCell_other _ _ _ _ (by show w2.heap.size + 1 ≠ bb; omega)]; exact x4
    · rw [heap_setCell_other _ _ _ _ (by show w2.heap.size ≠ bb; omega)]; exact m4
  clear h b1 b2 v2 b4 m4 x4 hb4
  go_enter_defers Tryz.func11, Tryz.ntmps11
  go_wp2_with (first
    | (go_at_call 36; refine (lock_free ⟨bb, 1, none⟩ _ c1 z1).mono ?_; rintro e w' ⟨rfl, rfl⟩; rw [← HW1.out])
    | (go_at_call 18; rw [← HW2.out]; refine HTR.mono ?_; rintro e w' ⟨rfl, rfl⟩))
  rw [← HW4.out]
  refine leaves_cons (f := 37) (args := #[.pointer (some ⟨bb, 1, none⟩)]) (by simp) (by simp [go_sem]) ?_
  refine (unlock_deferred ⟨bb, 1, none⟩ _ _ d4 y4).mono ?_
  rintro e u' w'' ⟨rfl, rfl, rfl⟩
  have hf := HF.out
  simp [Leaves, settle, results, Tryz.results11, go_sem]
  exact ⟨hf.1, hf.2.1, _, hf.2.2⟩
end Go.Proofs.YtdmhffbohnfdlaaGreat
