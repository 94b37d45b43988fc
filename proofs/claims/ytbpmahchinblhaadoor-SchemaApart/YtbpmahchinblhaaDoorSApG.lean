/- A drawn region that appends one element (laid in a block of its own first) and stores the grown slice: what stands at whatever time. -/
import Derived.Test.YtbpmahchinblhaaDoorSApI
import Derived.Test.YtbpmahchinblhaaDoorRgW
namespace Go.Proofs.YtbpmahchinblhaaDoor
open Go.RowKit
set_option linter.unusedVariables false

/-- ib: the operation that lays the element; ia: the append; is: the store, at ha; u: the slice as it was. -/
structure JG (e : TypeId) (size n : Nat) (xs nw : List Value) (u : Value) (ha : Addr) (ib ia is : Nat) (wr : World) (ls : Nat → Bool) (vs : Nat → Value) (W : World) : Prop where
  ahead : ls ia = false → Below wr.heap.size wr W ∧ (ls ib = true → ∃ b, vs ib = .slice (some ⟨b, 0, none⟩) 1 1 ∧ W.heap[b]? = some (.cells nw.toArray e) ∧ wr.heap.size ≤ b)
  grown : ls ia = true → ls is = false → ∃ g cap, vs ia = .slice (some ⟨g, 0, none⟩) (n + 1) cap ∧ Hid (W.ownsRow 0 e size (.slice (some ⟨g, 0, none⟩) (n + 1) cap) (n + 1) (xs ++ nw)) ∧ Hid (Grew wr W u (.slice (some ⟨g, 0, none⟩) (n + 1) cap))
  stored : ls is = true → ∃ g cap w4, W = w4.setCell ha (.slice (some ⟨g, 0, none⟩) (n + 1) cap) ∧ Hid (w4.ownsRow 0 e size (.slice (some ⟨g, 0, none⟩) (n + 1) cap) (n + 1) (xs ++ nw)) ∧ Hid (Grew wr w4 u (.slice (some ⟨g, 0, none⟩) (n + 1) cap))

variable {e : TypeId} {size n : Nat} {xs nw : List Value} {u : Value} {ha : Addr} {ib ia is : Nat} {wr : World} {ls : Nat → Bool} {vs : Nat → Value} {W : World}

theorem JG.start (hab : ia ≠ is) (hW : Below wr.heap.size wr W) : JG e size n xs nw u ha ib ia is wr (fun _ => false) vs W :=
  ⟨fun _ => ⟨hW, fun h => (by cases h)⟩, fun h => (by cases h), fun h => (by cases h)⟩
/-- A cell that is not the slice's own reads as before until the store. -/
theorem JG.cell (h : JG e size n xs nw u ha ib ia is wr ls vs W) (hs : ls is = false) {a : Addr} {v : Value} (hc : wr.cell? a = some v) (hne : some a.block ≠ u.ownBlock) : W.cell? a = some v := by
  cases hl : ls ia with
  | false => rw [(h.ahead hl).1.cell (World.block_lt_of_cell? wr _ hc)]; exact hc
  | true =>
    obtain ⟨g, cap, _, _, hg⟩ := h.grown hl hs
    exact hg.out.cell hc hne
/-- Any other operation. -/
theorem JG.next (h : JG e size n xs nw u ha ib ia is wr ls vs W) {i : Nat} {v : Value} (h1 : i ≠ ib) (h2 : i ≠ ia) (h3 : i ≠ is) : JG e size n xs nw u ha ib ia is wr (updB ls i) (updV vs i v) W := by
  refine ⟨fun hl => ?_, fun hl hf => ?_, fun hl => ?_⟩
  · rw [updB_ne h2.symm] at hl
    rw [updB_ne h1.symm, updV_ne h1.symm]
    exact h.ahead hl
  · rw [updB_ne h2.symm] at hl
    rw [updB_ne h3.symm] at hf
    rw [updV_ne h2.symm]
    exact h.grown hl hf
  · rw [updB_ne h3.symm] at hl
    exact h.stored hl
theorem JG.build (h : JG e size n xs nw u ha ib ia is wr ls vs W) (hba : ib ≠ ia) (hbs : ib ≠ is) (hf : ls ia = false) (hfs : ls is = false) : JG e size n xs nw u ha ib ia is wr (updB ls ib) (updV vs ib (.slice (some ⟨W.heap.size, 0, none⟩) 1 1)) (W.alloc (.cells nw.toArray e)) := by
  refine ⟨fun hl => ⟨(h.ahead hf).1.alloc (h.ahead hf).1.size _, fun _ => ⟨W.heap.size, updV_eq, new_blk _ _, (h.ahead hf).1.size⟩⟩, fun hl => ?_, fun hl => ?_⟩
  · rw [updB_ne hba.symm, hf] at hl; cases hl
  · rw [updB_ne hbs.symm, hfs] at hl; cases hl
theorem JG.app (h : JG e size n xs nw u ha ib ia is wr ls vs W) (has : ia ≠ is) (hf : ls ia = false) (hfs : ls is = false) {g cap : Nat} {w' : World}
    (ho : w'.ownsRow 0 e size (.slice (some ⟨g, 0, none⟩) (n + 1) cap) (n + 1) (xs ++ nw)) (hg : W.grownBy w' u.ownBlock) (hat : u.ownBlock = some g ∨ g = W.heap.size) : JG e size n xs nw u ha ib ia is wr (updB ls ia) (updV vs ia (.slice (some ⟨g, 0, none⟩) (n + 1) cap)) w' := by
  have hb := (h.ahead hf).1
  refine ⟨fun hl => (by rw [updB_eq] at hl; cases hl), fun _ _ => ⟨g, cap, updV_eq, ho, ?_⟩, fun hl => (by rw [updB_ne has.symm, hfs] at hl; cases hl)⟩
  refine ⟨⟨hg.os.trans hb.os, hg.tape.trans hb.tape, hg.output.trans hb.output, Nat.le_trans hb.size hg.size, fun k hk hne => (hg.block k (Nat.lt_of_lt_of_le hk hb.size) hne).trans (hb.block k hk)⟩, fun k hk => ?_⟩
  simp only [Value.ownBlock, Option.some.injEq] at hk
  subst hk
  rcases hat with h1 | h1
  · exact .inl h1
  · exact .inr (by rw [h1]; exact hb.size)
theorem JG.store (h : JG e size n xs nw u ha ib ia is wr ls vs W) (has : ia ≠ is) (ht : ls ia = true) (hfs : ls is = false) {v : Value} {g cap : Nat} (hv : vs ia = .slice (some ⟨g, 0, none⟩) (n + 1) cap) : JG e size n xs nw u ha ib ia is wr (updB ls is) (updV vs is v) (W.setCell ha (.slice (some ⟨g, 0, none⟩) (n + 1) cap)) := by
  obtain ⟨g', cap', hv', h1, h2⟩ := h.grown ht hfs
  rw [hv] at hv'
  simp only [Value.slice.injEq, Option.some.injEq, Addr.mk.injEq, and_true, true_and] at hv'
  obtain ⟨rfl, rfl⟩ := hv'
  exact ⟨fun hl => (by rw [updB_ne has, ht] at hl; cases hl), fun _ hl => (by rw [updB_eq] at hl; cases hl), fun _ => ⟨g, cap, W, rfl, h1, h2⟩⟩
section
variable {o : Oper} {a : Act} {K : Act → World → Prop} {Q : Exit → Act → World → Prop}
theorem f_mvA {P : Program} {x : Operand} {v : Value} (ho : o.op = .move x) (hx : a.eval x = v) (h : K (a.put o.dst v) W) : o.wp P a W K Q :=
  wp_valF (v := v) (by unfold execOp; simp only [ho, hx]; rfl) h
theorem f_bInt {x : Operand} {n : Int} (ho : o.op = .buildSlice 36 1 #[(0, x)]) (hx : a.eval x = .int .i64 n) (h : K (a.put o.dst (.slice (some ⟨W.heap.size, 0, none⟩) 1 1)) (W.alloc (.cells #[.int .i64 n] 3))) : o.wp Tryd.prog a W K Q := by
  have hr : (execOp a.eval o).run Tryd.prog W = .ok (.value (.slice (some ⟨W.heap.size, 0, none⟩) 1 1)) (W.alloc (.cells #[.int .i64 n] 3)) := by
    unfold execOp
    simp only [ho, List.map_toArray, List.map_cons, List.map_nil, hx]
    go_simp
  unfold Oper.wp
  rw [hr]
  exact h
theorem f_bFld {x : Operand} {s : ByteArray} {n : Int} (ho : o.op = .buildSlice 32 1 #[(0, x)]) (hx : a.eval x = .agg #[.string s, .int .i64 n]) (h : K (a.put o.dst (.slice (some ⟨W.heap.size, 0, none⟩) 1 1)) (W.alloc (.cells #[.string s, .int .i64 n] 40))) : o.wp Tryd.prog a W K Q := by
  have hr : (execOp a.eval o).run Tryd.prog W = .ok (.value (.slice (some ⟨W.heap.size, 0, none⟩) 1 1)) (W.alloc (.cells #[.string s, .int .i64 n] 40)) := by
    unfold execOp
    simp only [ho, List.map_toArray, List.map_cons, List.map_nil, hx]
    go_simp
  unfold Oper.wp
  rw [hr]
  exact h
theorem f_bIdx {x : Operand} {s : ByteArray} (ho : o.op = .buildSlice 33 1 #[(0, x)]) (hx : a.eval x = .agg #[.string s, .slice none 0 0, .bool false, .bool false, .bool false]) (h : K (a.put o.dst (.slice (some ⟨W.heap.size, 0, none⟩) 1 1)) (W.alloc (.cells #[.string s, .slice none 0 0, .bool false, .bool false, .bool false] 38))) : o.wp Tryd.prog a W K Q := by
  have hr : (execOp a.eval o).run Tryd.prog W = .ok (.value (.slice (some ⟨W.heap.size, 0, none⟩) 1 1)) (W.alloc (.cells #[.string s, .slice none 0 0, .bool false, .bool false, .bool false] 38)) := by
    unfold execOp
    simp only [ho, List.map_toArray, List.map_cons, List.map_nil, hx]
    go_simp
  unfold Oper.wp
  rw [hr]
  exact h
theorem f_stSl {t : TypeId} {x y : Operand} {g k : Nat} {s : Option Addr} {n c : Nat} {old : Value} (ht : t = 36 ∨ t = 32 ∨ t = 33) (ho : o.op = .store t x y) (hx : a.eval x = .pointer (some ⟨g, k, none⟩)) (hy : a.eval y = .slice s n c) (hc : W.cell? ⟨g, k, none⟩ = some old) (hz : W.frozen? ⟨g, k, none⟩ = false) (h : K (a.put o.dst undef) (W.setCell ⟨g, k, none⟩ (.slice s n c))) : o.wp Tryd.prog a W K Q := by
  rcases ht with rfl | rfl | rfl <;> (unfold Oper.wp execOp; simp only [ho, hx, hy]; go_simp; first | done | exact h)
end
end Go.Proofs.YtbpmahchinblhaaDoor
