/- Layer 18 (json): appendValue: the drawn regions of lists and objects, their state. -/
import Derived.Test.YtelhgjepjieocaaDoorJxApI
namespace Go.Proofs.YtelhgjepjieocaaDoor
open Go.RowKit Go.MapKept Go.Sort
set_option linter.unusedVariables false

def curV (v : Value) (ls : Nat → Bool) (vs : Nat → Value) : Value := if ls 6 then vs 6 else if ls 4 then vs 4 else if ls 2 then vs 2 else v
def curL (l l1 l2 l3 : List Nat) (ls : Nat → Bool) : List Nat := if ls 6 then l3 else if ls 4 then l2 else if ls 2 then l1 else l
/-- The order's state: the text as it is by now; the two literals, as long as they are wanted. -/
structure JV (w1 : World) (B : Nat) (v : Value) (l l1 l2 l3 c1 c5 : List Nat) (ls : Nat → Bool) (vs : Nat → Value) (W : World) : Prop where
  own : Ow W B 5 (curV v ls vs) (nbs (curL l l1 l2 l3 ls))
  grew : Grew w1 W v (curV v ls vs)
  o42 : ls 4 = true → ls 2 = true
  o64 : ls 6 = true → ls 4 = true
  b1 : ls 1 = true → ls 2 = false → ∃ q, vs 1 = .slice (some ⟨q, 0, none⟩) 1 1 ∧ W.heap[q]? = some (.cells (nbs c1).toArray 5) ∧ ¬ (curV v ls vs).ownBlock = some q
  b5 : ls 5 = true → ls 6 = false → ∃ q, vs 5 = .slice (some ⟨q, 0, none⟩) 1 1 ∧ W.heap[q]? = some (.cells (nbs c5).toArray 5) ∧ ¬ (curV v ls vs).ownBlock = some q
  last : ls 7 = true → vs 7 = vs 6 ∧ ls 6 = true
section
variable {w1 W W' : World} {B : Nat} {v x : Value} {l l1 l2 l3 c1 c5 : List Nat} {ls : Nat → Bool} {vs : Nat → Value}
theorem JV.q0 (h : JV w1 B v l l1 l2 l3 c1 c5 ls vs W) : JV w1 B v l l1 l2 l3 c1 c5 (updB ls 0) (updV vs 0 x) W := by
  refine ⟨?_, ?_, ?_, ?_, ?_, ?_, ?_⟩
  · simpa [updB, updV, curV, curL] using h.own
  · simpa [updB, updV, curV, curL] using h.grew
  · simpa [updB, updV, curV, curL] using h.o42
  · simpa [updB, updV, curV, curL] using h.o64
  · simpa [updB, updV, curV, curL] using h.b1
  · simpa [updB, updV, curV, curL] using h.b5
  · simpa [updB, updV, curV, curL] using h.last
theorem JV.q3 (h : JV w1 B v l l1 l2 l3 c1 c5 ls vs W) : JV w1 B v l l1 l2 l3 c1 c5 (updB ls 3) (updV vs 3 x) W := by
  refine ⟨?_, ?_, ?_, ?_, ?_, ?_, ?_⟩
  · simpa [updB, updV, curV, curL] using h.own
  · simpa [updB, updV, curV, curL] using h.grew
  · simpa [updB, updV, curV, curL] using h.o42
  · simpa [updB, updV, curV, curL] using h.o64
  · simpa [updB, updV, curV, curL] using h.b1
  · simpa [updB, updV, curV, curL] using h.b5
  · simpa [updB, updV, curV, curL] using h.last
theorem alloc_old {W : World} {q : Nat} {o o' : Obj} (h : W.heap[q]? = some o) : (W.alloc o').heap[q]? = some o := (((Below.refl W.heap.size W).alloc (Nat.le_refl _) o').block q (lt_of_heapT h)).trans h
theorem JV.a1 (h : JV w1 B v l l1 l2 l3 c1 c5 ls vs W) : JV w1 B v l l1 l2 l3 c1 c5 (updB ls 1) (updV vs 1 (.slice (some ⟨W.heap.size, 0, none⟩) 1 1)) (W.alloc (.cells (nbs c1).toArray 5)) := by
  have hb : Below W.heap.size W (W.alloc (.cells (nbs c1).toArray 5)) := (Below.refl _ _).alloc (Nat.le_refl _) _
  refine ⟨?_, ?_, ?_, ?_, ?_, ?_, ?_⟩
  · simpa [updB, updV, curV, curL] using h.own.below hb
  · simpa [updB, updV, curV, curL] using h.grew.below hb
  · simpa [updB, updV, curV, curL] using h.o42
  · simpa [updB, updV, curV, curL] using h.o64
  · intro _ h2
    refine ⟨W.heap.size, by simp [updV], heap_alloc_new W _, ?_⟩
    have := fun e => (World.ownsRow.lt h.own W.heap.size e).2
    intro e
    have e' : (curV v ls vs).ownBlock = some W.heap.size := by simpa [updB, updV, curV] using e
    have := this e'
    omega
  · intro h5 h6
    obtain ⟨q, e1, e2, e3⟩ := h.b5 (by simpa [updB] using h5) (by simpa [updB] using h6)
    exact ⟨q, by simpa [updV] using e1, alloc_old e2, by simpa [updB, updV, curV] using e3⟩
  · simpa [updB, updV, curV, curL] using h.last
theorem JV.a5 (h : JV w1 B v l l1 l2 l3 c1 c5 ls vs W) : JV w1 B v l l1 l2 l3 c1 c5 (updB ls 5) (updV vs 5 (.slice (some ⟨W.heap.size, 0, none⟩) 1 1)) (W.alloc (.cells (nbs c5).toArray 5)) := by
  have hb : Below W.heap.size W (W.alloc (.cells (nbs c5).toArray 5)) := (Below.refl _ _).alloc (Nat.le_refl _) _
  refine ⟨?_, ?_, ?_, ?_, ?_, ?_, ?_⟩
  · simpa [updB, updV, curV, curL] using h.own.below hb
  · simpa [updB, updV, curV, curL] using h.grew.below hb
  · simpa [updB, updV, curV, curL] using h.o42
  · simpa [updB, updV, curV, curL] using h.o64
  · intro h5 h6
    obtain ⟨q, e1, e2, e3⟩ := h.b1 (by simpa [updB] using h5) (by simpa [updB] using h6)
    exact ⟨q, by simpa [updV] using e1, alloc_old e2, by simpa [updB, updV, curV] using e3⟩
  · intro _ h2
    refine ⟨W.heap.size, by simp [updV], heap_alloc_new W _, ?_⟩
    have := fun e => (World.ownsRow.lt h.own W.heap.size e).2
    intro e
    have e' : (curV v ls vs).ownBlock = some W.heap.size := by simpa [updB, updV, curV] using e
    have := this e'
    omega
  · simpa [updB, updV, curV, curL] using h.last
/-- A block that is not the text's stays while the text grows. -/
theorem grew_kept {q : Nat} {o : Obj} {y : Value} (hg : Grew W W' y x) (h : W.heap[q]? = some o) (hn : ¬ y.ownBlock = some q) : W'.heap[q]? = some o ∧ ¬ x.ownBlock = some q :=
  ⟨(hg.grown.block q (lt_of_heapT h) (fun e => hn e.symm)).trans h, fun e => by rcases hg.place q e with e | e; exact hn e; have := lt_of_heapT h; omega⟩
theorem JV.g2 (h : JV w1 B v l l1 l2 l3 c1 c5 ls vs W) (h2 : ls 2 = false) (ho : Ow W' B 5 x (nbs l1)) (hg : Grew W W' v x) : JV w1 B v l l1 l2 l3 c1 c5 (updB ls 2) (updV vs 2 x) W' := by
  have h4 : ls 4 = false := by cases e : ls 4 with | false => rfl | true => have := h.o42 e; rw [h2] at this; cases this
  have h6 : ls 6 = false := by cases e : ls 6 with | false => rfl | true => have := h.o64 e; rw [h4] at this; cases this
  have hc : curV v ls vs = v := by simp [curV, h2, h4, h6]
  have hc' : curV v (updB ls 2) (updV vs 2 x) = x := by simp [curV, updB, updV, h4, h6]
  have hb5 := h.b5
  have hgr := h.grew
  rw [hc] at hb5 hgr
  refine ⟨?_, ?_, ?_, ?_, ?_, ?_, ?_⟩
  · rw [hc']; simpa [updB, curL, h4, h6] using ho
  · rw [hc']; exact hgr.trans hg
  · intro _; simp [updB]
  · simpa [updB] using h.o64
  · intro _ e; simp [updB] at e
  · intro h5 _
    obtain ⟨q, e1, e2, e3⟩ := hb5 (by simpa [updB] using h5) h6
    rw [hc']
    exact ⟨q, by simpa [updV] using e1, grew_kept hg e2 e3⟩
  · simpa [updB, updV] using h.last
theorem JV.g4 (h : JV w1 B v l l1 l2 l3 c1 c5 ls vs W) (h2 : ls 2 = true) (h4 : ls 4 = false) (ho : Ow W' B 5 x (nbs l2)) (hg : Grew W W' (vs 2) x) : JV w1 B v l l1 l2 l3 c1 c5 (updB ls 4) (updV vs 4 x) W' := by
  have h6 : ls 6 = false := by cases e : ls 6 with | false => rfl | true => have := h.o64 e; rw [h4] at this; cases this
  have hc : curV v ls vs = vs 2 := by simp [curV, h2, h4, h6]
  have hc' : curV v (updB ls 4) (updV vs 4 x) = x := by simp [curV, updB, updV, h6]
  have hb5 := h.b5
  have hgr := h.grew
  rw [hc] at hb5 hgr
  refine ⟨?_, ?_, ?_, ?_, ?_, ?_, ?_⟩
  · rw [hc']; simpa [updB, curL, h6] using ho
  · rw [hc']; exact hgr.trans hg
  · intro _; simpa [updB] using h2
  · intro e; simp [updB] at e ⊢
  · intro _ e; simp [updB, h2] at e
  · intro h5 _
    obtain ⟨q, e1, e2, e3⟩ := hb5 (by simpa [updB] using h5) h6
    rw [hc']
    exact ⟨q, by simpa [updV] using e1, grew_kept hg e2 e3⟩
  · simpa [updB, updV] using h.last
theorem JV.g6 (h : JV w1 B v l l1 l2 l3 c1 c5 ls vs W) (h4 : ls 4 = true) (h6 : ls 6 = false) (ho : Ow W' B 5 x (nbs l3)) (hg : Grew W W' (vs 4) x) : JV w1 B v l l1 l2 l3 c1 c5 (updB ls 6) (updV vs 6 x) W' := by
  have h2 := h.o42 h4
  have hc : curV v ls vs = vs 4 := by simp [curV, h4, h6]
  have hc' : curV v (updB ls 6) (updV vs 6 x) = x := by simp [curV, updB, updV]
  have hgr := h.grew
  rw [hc] at hgr
  refine ⟨?_, ?_, ?_, ?_, ?_, ?_, ?_⟩
  · rw [hc']; simpa [updB, curL] using ho
  · rw [hc']; exact hgr.trans hg
  · simpa [updB] using h.o42
  · intro _; simpa [updB] using h4
  · intro _ e; simp [updB, h2] at e
  · intro _ e; simp [updB] at e
  · intro e
    have := (h.last (by simpa [updB] using e)).2
    rw [h6] at this; cases this
theorem JV.l7 (h : JV w1 B v l l1 l2 l3 c1 c5 ls vs W) (hx : x = vs 6) (h6 : ls 6 = true) : JV w1 B v l l1 l2 l3 c1 c5 (updB ls 7) (updV vs 7 x) W := by
  refine ⟨?_, ?_, ?_, ?_, ?_, ?_, ?_⟩
  · simpa [updB, updV, curV, curL] using h.own
  · simpa [updB, updV, curV, curL] using h.grew
  · simpa [updB, updV, curV, curL] using h.o42
  · simpa [updB, updV, curV, curL] using h.o64
  · simpa [updB, updV, curV, curL] using h.b1
  · simpa [updB, updV, curV, curL] using h.b5
  · intro _; simpa [updB, updV] using ⟨hx, h6⟩
end
def RV (v0 v3 : Value) (j : Nat) (v : Value) (W : World) : Prop :=
  match j with
  | 0 => v = v0
  | 3 => v = v3
  | _ => True
section
variable {o : Oper} {a : Act} {W : World} {K : Act → World → Prop} {Q : Exit → Act → World → Prop}
theorem f_load5 {x : Operand} {g : Nat} {c0 c1 c2 c3 c4 : Value} (ho : o.op = .load 26 x) (hx : a.eval x = .pointer (some ⟨g, 0, none⟩)) (hb : Blk W g #[c0, c1, c2, c3, c4] 26) (h : K (a.put o.dst (.agg #[c0, c1, c2, c3, c4])) W) : o.wp Tryd.prog a W K Q := by
  obtain ⟨x0, x1, x2, x3, x4, -⟩ := Blk.five hb
  exact wp_valF (v := .agg #[c0, c1, c2, c3, c4]) (by unfold execOp; simp only [ho, hx]; simp [x0, x1, x2, x3, x4, go_sem]) h
theorem f_build1 {c : Nat} (ho : o.op = .buildSlice 41 1 #[(0, .const (.int .u8 (c : Int)))]) (h : K (a.put o.dst (.slice (some ⟨W.heap.size, 0, none⟩) 1 1)) (W.alloc (.cells (nbs [c]).toArray 5))) : o.wp Tryd.prog a W K Q := by
  have hr : (execOp a.eval o).run Tryd.prog W = .ok (.value (.slice (some ⟨W.heap.size, 0, none⟩) 1 1)) (W.alloc (.cells (nbs [c]).toArray 5)) := by
    unfold execOp
    simp only [ho, List.map_toArray, List.map_cons, List.map_nil]
    go_simp
    rfl
  unfold Oper.wp
  rw [hr]
  exact h
end
end Go.Proofs.YtelhgjepjieocaaDoor
