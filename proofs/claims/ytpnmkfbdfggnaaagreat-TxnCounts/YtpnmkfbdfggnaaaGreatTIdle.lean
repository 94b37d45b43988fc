/- Layer 5 (txn): an end that publishes nothing: Abort, and Commit with no key touched. -/
import Derived.Test.YtpnmkfbdfggnaaaGreatTCommit
namespace Go.Proofs.YtpnmkfbdfggnaaaGreat
open Go.RowKit
set_option linter.unusedVariables false

set_option maxRecDepth 100000 in
set_option maxHeartbeats 2000000 in
/-- Base.end with no key. -/
theorem baseIdle_calls (bb vb tb tb1 : Nat) (nm : Int) (ao : Option Addr) (cap : Nat) (w : World) (h : BaseAt w bb vb tb nm true) :
    Calls Tryz.prog 96 #[.pointer (some ⟨bb, 0, none⟩), .pointer (some ⟨tb1, 0, none⟩), .slice ao 0 cap] w fun e w' => e = .returned (.int .i64 0) ∧ BaseAt w' bb vb tb nm false ∧ Touched [bb] w w' := by
  have c1 : w.cell? ⟨bb, 1, none⟩ = some (.int .i32 0) := by rw [cell_of_blk h.blk]; rfl
  have z1 : w.frozen? ⟨bb, 1, none⟩ = false := frozen_of_blk h.blk
  have hne : vb ≠ bb := fun e => by have := h.ver; rw [e, h.blk] at this; simp at this
  obtain ⟨w1, HW1⟩ : ∃ w1, Hid (w1 = w.setCell ⟨bb, 1, none⟩ (.int .i32 1)) := ⟨_, rfl⟩
  have b1 : w1.heap[bb]? = some (.cells #[.pointer (some ⟨vb, 0, none⟩), .int .i32 1, .int .u32 0, .bool true] 99) := by rw [HW1.out]; exact mutex_two h.blk
  have d3 : w1.cell? ⟨bb, 3, none⟩ = some (.bool true) := by rw [cell_of_blk b1]; rfl
  have y3 : w1.frozen? ⟨bb, 3, none⟩ = false := frozen_of_blk b1
  obtain ⟨w2, HW2⟩ : ∃ w2, Hid (w2 = w1.setCell ⟨bb, 3, none⟩ (.bool false)) := ⟨_, rfl⟩
  have b2 : w2.heap[bb]? = some (.cells #[.pointer (some ⟨vb, 0, none⟩), .int .i32 1, .int .u32 0, .bool false] 99) := by rw [HW2.out, setCell_blk b1]; rfl
  have d2 : w2.cell? ⟨bb, 1, none⟩ = some (.int .i32 1) := by rw [cell_of_blk b2]; rfl
  have y2 : w2.frozen? ⟨bb, 1, none⟩ = false := frozen_of_blk b2
  have HF : Hid (BaseAt (w2.setCell ⟨bb, 1, none⟩ (.int .i32 0)) bb vb tb nm false ∧ Touched [bb] w (w2.setCell ⟨bb, 1, none⟩ (.int .i32 0))) := by
    refine ⟨⟨by rw [setCell_blk b2]; rfl, ?_⟩, ?_⟩
    · rw [heap_setCell_other _ _ _ _ hne, HW2.out, heap_setCell_other _ _ _ _ hne, HW1.out, heap_setCell_other _ _ _ _ hne]; exact h.ver
    · rw [HW2.out, HW1.out]; exact (((Touched.refl _ _).setCell _ _ (.inl (by simp))).setCell _ _ (.inl (by simp))).setCell _ _ (.inl (by simp))
  clear h b1 b2
  go_enter_defers Tryz.func96, Tryz.ntmps96
  go_wp2_with (first
    | (go_at_call 38; refine (lock_free ⟨bb, 1, none⟩ _ c1 z1).mono ?_; rintro e w' ⟨rfl, rfl⟩; rw [← HW1.out])
    | fail)
  rw [← HW2.out]
  refine leaves_cons (f := 39) (args := #[.pointer (some ⟨bb, 1, none⟩)]) (by simp) (by simp [go_sem]) ?_
  refine (unlock_deferred ⟨bb, 1, none⟩ _ _ d2 y2).mono ?_
  rintro e u' w'' ⟨rfl, rfl, rfl⟩
  have hf := HF.out
  simp [Leaves, settle, results, Tryz.results96, go_sem]
  exact hf

set_option maxRecDepth 100000 in
set_option maxHeartbeats 4000000 in
theorem txnIdle_calls (xb bb vb tb tbx mb : Nat) (nm : Int) (ao : Option Addr) (cap : Nat) (w : World) (hx : TxnAt w xb bb tbx mb) (h : BaseAt w bb vb tb nm true) :
    Calls Tryz.prog 70 #[.pointer (some ⟨xb, 0, none⟩), .slice ao 0 cap] w fun e w' => e = .returned (.int .i64 0) ∧ BaseAt w' bb vb tb nm false ∧ Touched [bb, xb] w w' := by
  have c0 : w.cell? ⟨xb, 0, none⟩ = some (.pointer (some ⟨bb, 0, none⟩)) := by rw [cell_of_blk hx.blk]; rfl
  have c1 : w.cell? ⟨xb, 1, none⟩ = some (.pointer (some ⟨tbx, 0, none⟩)) := by rw [cell_of_blk hx.blk]; rfl
  have c2 : w.cell? ⟨xb, 2, none⟩ = some (.map (some mb)) := by rw [cell_of_blk hx.blk]; rfl
  obtain ⟨w1, HW1⟩ : ∃ w1, Hid (w1 = w.alloc (.cells #[.pointer (some ⟨bb, 0, none⟩), .pointer (some ⟨tbx, 0, none⟩), .map (some mb)] 107)) := ⟨_, rfl⟩
  have hb1 : Below w.heap.size w w1 := by rw [HW1.out]; exact (Below.refl _ _).alloc (Nat.le_refl _) _
  have q1 : w1.heap[w.heap.size]? = some (.cells #[.pointer (some ⟨bb, 0, none⟩), .pointer (some ⟨tbx, 0, none⟩), .map (some mb)] 107) := by rw [HW1.out]; exact heap_alloc_new _ _
  have hxl := lt_of_heap hx.blk
  have x1 := (hx.below hb1).blk
  have d0 : w1.cell? ⟨xb, 0, none⟩ = some (.pointer (some ⟨bb, 0, none⟩)) := by rw [cell_of_blk x1]; rfl
  have d1 : w1.cell? ⟨xb, 1, none⟩ = some (.pointer (some ⟨tbx, 0, none⟩)) := by rw [cell_of_blk x1]; rfl
  have d2 : w1.cell? ⟨xb, 2, none⟩ = some (.map (some mb)) := by rw [cell_of_blk x1]; rfl
  have y0 : w1.frozen? ⟨xb, 0, none⟩ = false := frozen_of_blk x1
  have y1 : w1.frozen? ⟨xb, 1, none⟩ = false := frozen_of_blk x1
  have y2 : w1.frozen? ⟨xb, 2, none⟩ = false := frozen_of_blk x1
  obtain ⟨w2, HW2⟩ : ∃ w2, Hid (w2 = ((w1.setCell ⟨xb, 0, none⟩ (.pointer none)).setCell ⟨xb, 1, none⟩ (.pointer none)).setCell ⟨xb, 2, none⟩ (.map none)) := ⟨_, rfl⟩
  have t12 : Touched [xb] w1 w2 := by rw [HW2.out]; exact (((Touched.refl _ _).setCell _ _ (.inl (by simp))).setCell _ _ (.inl (by simp))).setCell _ _ (.inl (by simp))
  have t2 : Touched [xb] w w2 := (Touched.ofBelow hb1 _).trans t12
  have hnx : w.heap.size ≠ xb := by omega
  have q2 : w2.heap[w.heap.size]? = some (.cells #[.pointer (some ⟨bb, 0, none⟩), .pointer (some ⟨tbx, 0, none⟩), .map (some mb)] 107) := (t12.block _ (lt_of_heap q1) (by simpa using hnx)).trans q1
  have e0 : w2.cell? ⟨w.heap.size, 0, none⟩ = some (.pointer (some ⟨bb, 0, none⟩)) := by rw [cell_of_blk q2]; rfl
  have e1 : w2.cell? ⟨w.heap.size, 1, none⟩ = some (.pointer (some ⟨tbx, 0, none⟩)) := by rw [cell_of_blk q2]; rfl
  have hnb : bb ≠ xb := fun e => by have := h.blk; rw [e, hx.blk] at this; simp at this
  have hnv : vb ≠ xb := fun e => by have := h.ver; rw [e, hx.blk] at this; simp at this
  have h2 : BaseAt w2 bb vb tb nm true := ⟨(t2.block _ (lt_of_heap h.blk) (by simpa using hnb)).trans h.blk, (t2.block _ (lt_of_heap h.ver) (by simpa using hnv)).trans h.ver⟩
  have HBE := baseIdle_calls bb vb tb tbx nm ao cap w2 h2
  have HF : Hid (Touched [xb] w w2) := t2
  clear hb1 q1 hxl x1 t12 t2 hnx q2 hnb hnv h2 hx h
  go_enter Tryz.func70, Tryz.ntmps70
  go_upto_region 2 with fail
  rw [← HW1.out]
  clear HW1
  go_upto_region 3 with fail
  rw [← HW2.out]
  clear HW2
  go_wp2_with fail
  refine HBE.mono ?_
  clear HBE
  rintro e w5 ⟨rfl, hB5, ht5⟩
  have HFIN : Hid (BaseAt w5 bb vb tb nm false ∧ Touched [bb, xb] w w5) := ⟨hB5, HF.out.join ht5 (fun i hi => by simp at hi; simp [hi]) (fun i hi _ => by simp at hi; simp [hi])⟩
  clear hB5 ht5
  go_wp2
  go_ret
  exact ⟨rfl, HFIN.out⟩

set_option maxRecDepth 100000 in
set_option maxHeartbeats 2000000 in
theorem abort_calls (xb bb vb tb tbx mb : Nat) (nm : Int) (w : World) (hx : TxnAt w xb bb tbx mb) (h : BaseAt w bb vb tb nm true) :
    Calls Tryz.prog 27 #[.pointer (some ⟨xb, 0, none⟩)] w fun e w' => e = .returned (.int .i64 0) ∧ BaseAt w' bb vb tb nm false ∧ Touched [bb, xb] w w' := by
  have HO := over_calls xb bb tbx mb w hx
  have HTE := txnIdle_calls xb bb vb tb tbx mb nm none 0 w hx h
  clear hx h
  go_enter Tryz.func27, Tryz.ntmps27
  go_wp2_with fail
  refine HO.mono ?_
  clear HO
  rintro e w0 ⟨rfl, hw0⟩
  rw [hw0]
  clear hw0
  go_wp2_with fail
  refine HTE.mono ?_
  clear HTE
  rintro e w5 ⟨rfl, hB5, ht5⟩
  have HFIN : Hid (BaseAt w5 bb vb tb nm false ∧ Touched [bb, xb] w w5) := ⟨hB5, ht5⟩
  clear hB5 ht5
  go_wp2
  go_ret
  exact ⟨rfl, HFIN.out⟩

set_option maxRecDepth 100000 in
set_option maxHeartbeats 4000000 in
/-- Commit with no key touched. -/
theorem commitIdle_calls (xb bb vb tb tbx mb clock : Nat) (es : Array MapEntry) (nm : Int) (w : World) (hx : TxnAt w xb bb tbx mb) (h : BaseAt w bb vb tb nm true) (hm : MapAt w mb es clock []) :
    Calls Tryz.prog 28 #[.pointer (some ⟨xb, 0, none⟩)] w fun e w' => e = .returned (.tuple #[.int .i64 0, .int .i64 0]) ∧ BaseAt w' bb vb tb nm false ∧ Touched [bb, xb] w w' := by
  have HO := over_calls xb bb tbx mb w hx
  have HTC := touched_calls xb bb tbx mb clock es [] w hx hm (by simp)
  have HS : Hid (TxnAt w xb bb tbx mb ∧ BaseAt w bb vb tb nm true) := ⟨hx, h⟩
  clear hx h hm
  go_enter Tryz.func28, Tryz.ntmps28
  go_wp2_with fail
  refine HO.mono ?_
  clear HO
  rintro e w0 ⟨rfl, hw0⟩
  rw [hw0]
  clear hw0
  go_wp2_with fail
  refine HTC.mono ?_
  clear HTC
  rintro e w1 ⟨g, cap, ss, rfl, hss, -, hb1⟩
  have hs0 : ss = [] := by rw [hss]; simp
  rw [hs0]
  have HTE := txnIdle_calls xb bb vb tb tbx mb nm (some ⟨g, 0, none⟩) cap w1 (HS.out.1.below hb1) (HS.out.2.below hb1)
  have HB1 : Hid (Below w.heap.size w w1) := hb1
  clear hss hb1 hs0
  simp only [List.length_nil]
  go_wp2_with fail
  refine HTE.mono ?_
  clear HTE
  rintro e w5 ⟨rfl, hB5, ht5⟩
  have HFIN : Hid (BaseAt w5 bb vb tb nm false ∧ Touched [bb, xb] w w5) := ⟨hB5, (Touched.ofBelow HB1.out []).join ht5 (by simp) (fun i hi _ => hi)⟩
  clear hB5 ht5
  go_wp2
  refine bodyPost_ret (v := .tuple #[.int .i64 0, .int .i64 0]) (by simp [results, Tryz.results28, go_sem]) rfl ?_
  exact ⟨rfl, HFIN.out⟩
end Go.Proofs.YtpnmkfbdfggnaaaGreat
