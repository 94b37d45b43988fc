/- Boxes: a value's cells in a block of their own; a result that lies in one. -/
import Derived.Test.YtkpjfmnohdolaaaDoorSGenB
import Derived.Laws.ResultCell
import Derived.Laws.Rows
import Derived.Lib.BufferMore
namespace Go.Proofs.YtkpjfmnohdolaaaDoor
open Go.RowKit
set_option linter.unusedVariables false

def Blk (w : World) (b : Nat) (cs : Array Value) (T : TypeId) : Prop := w.heap[b]? = some (.cells cs T)
theorem Blk.lt {w : World} {b : Nat} {cs : Array Value} {T : TypeId} (h : Blk w b cs T) : b < w.heap.size := (Array.getElem?_eq_some_iff.1 h).1
theorem Blk.below {w w' : World} {b : Nat} {cs : Array Value} {T : TypeId} (h : Blk w b cs T) (hb : Below w.heap.size w w') : Blk w' b cs T := (hb.block _ h.lt).trans h
theorem Blk.alloc {w : World} {b : Nat} {cs : Array Value} {T : TypeId} (h : Blk w b cs T) (o : Obj) : Blk (w.alloc o) b cs T := h.below ((Below.refl _ _).alloc (Nat.le_refl _) _)
theorem Blk.cell {w : World} {b : Nat} {cs : Array Value} {T : TypeId} (h : Blk w b cs T) (i : Nat) {v : Value} (hv : cs[i]? = some v) : w.cell? ⟨b, i, none⟩ = some v := (cell_of_row _ _ _ _ _ _ h).trans hv
theorem Blk.open {w : World} {b : Nat} {cs : Array Value} {T : TypeId} (h : Blk w b cs T) (i : Nat) : w.frozen? ⟨b, i, none⟩ = false := by
  have h' : w.heap[b]? = some (.cells cs T) := h
  simp [World.frozen?, h']
theorem Blk.new (w : World) (cs : Array Value) (T : TypeId) : Blk (w.alloc (.cells cs T)) w.heap.size cs T := by
  show (w.heap.push _)[w.heap.size]? = _
  rw [Array.getElem?_push, if_pos rfl]
theorem size_new (w : World) (o : Obj) : (w.alloc o).heap.size = w.heap.size + 1 := by
  show (w.heap.push _).size = _
  rw [Array.size_push]
theorem below_new (w : World) (o : Obj) : Below w.heap.size w (w.alloc o) := (Below.refl _ _).alloc (Nat.le_refl _) _
theorem below_undrew {w w' : World} (h : Below w.drew.heap.size w.drew w') : Below w.heap.size w w' := ⟨h.os, h.tape, h.output, h.size, h.block⟩
/-- Values stored one behind the other. -/
def putC (w : World) (g : Nat) : Nat → List Value → World
  | _, [] => w
  | i, v :: l => putC (w.setCell ⟨g, i, none⟩ v) g (i + 1) l
theorem putC_row {g : Nat} {T : TypeId} : ∀ (l : List Value) (w : World) (i : Nat) (cs : Array Value), Blk w g cs T → i + l.length = cs.size → Blk (putC w g i l) g (cs.toList.take i ++ l).toArray T
  | [], w, i, cs, h, hl => by
    have e : (cs.toList.take i ++ []).toArray = cs := by
      rw [List.append_nil, List.take_of_length_le (by rw [Array.length_toList]; simp at hl; omega)]
    rw [e]
    exact h
  | v :: l, w, i, cs, h, hl => by
    simp only [List.length_cons] at hl
    have h1 : Blk (w.setCell ⟨g, i, none⟩ v) g (cs.setIfInBounds i v) T := Lib.heap_setCell_same h v
    have h2 := putC_row l (w.setCell ⟨g, i, none⟩ v) (i + 1) (cs.setIfInBounds i v) h1 (by rw [Array.size_setIfInBounds]; omega)
    have e : (cs.setIfInBounds i v).toList.take (i + 1) ++ l = cs.toList.take i ++ v :: l := by
      rw [Array.toList_setIfInBounds, List.take_succ_eq_append_getElem (by rw [List.length_set, Array.length_toList]; omega), List.take_set_of_le (Nat.le_refl _)]
      simp
    rw [e] at h2
    exact h2
theorem putC_all {g : Nat} {T : TypeId} {l : List Value} {w : World} {cs : Array Value} (h : Blk w g cs T) (hl : l.length = cs.size) : Blk (putC w g 0 l) g l.toArray T := by
  have := putC_row l w 0 cs h (by omega)
  simpa using this
theorem putC_below {B g : Nat} {a : World} : ∀ (l : List Value) (w : World) (i : Nat), Below B a w → B ≤ g → Below B a (putC w g i l)
  | [], _, _, h, _ => h
  | v :: l, w, i, h, hg => putC_below l _ _ (h.setCell (p := ⟨g, i, none⟩) hg v) hg
theorem putC_other {g b : Nat} {T : TypeId} {cs : Array Value} (hne : b ≠ g) : ∀ (l : List Value) (w : World) (i : Nat), Blk w b cs T → Blk (putC w g i l) b cs T
  | [], _, _, h => h
  | v :: l, w, i, h => putC_other hne l _ _ (by
    show (w.setCell _ _).heap[b]? = _
    rw [heap_setCell_other _ _ _ _ (by exact hne)]
    exact h)
theorem putC_cell {g b i : Nat} {v : Value} (hne : b ≠ g) : ∀ (l : List Value) (w : World) (k : Nat), w.cell? ⟨b, i, none⟩ = some v → (putC w g k l).cell? ⟨b, i, none⟩ = some v
  | [], _, _, h => h
  | x :: l, w, k, h => putC_cell hne l _ _ (by rw [World.cell?_setCell_other _ _ _ _ (fun e => by injection e with e; exact hne e.symm)]; exact h)
theorem putC_size {g : Nat} : ∀ (l : List Value) (w : World) (i : Nat), (putC w g i l).heap.size = w.heap.size
  | [], _, _ => rfl
  | v :: l, w, i => (putC_size l _ _).trans (World.size_setCell ..)
/-- The end of a function whose first result lies in a box, the second in a slot. -/
theorem ret_box {fn : Func} {R : Ending → World → Prop} {a : Act} {w : World} {g : Nat} {cs : Array Value} {e : Value} {T : TypeId} (hres : fn.results = #[.cell 2 T, .tmp 3]) (ht : a.tmps.getD 2 undef = .pointer (some ⟨g, 0, none⟩)) (h3 : a.tmps.getD 3 undef = e) (hd : a.defers = [])
    (hl : (loadVar T ⟨g, 0, none⟩).run Tryd.prog w = .ok (.agg cs) w) (hR : R (.returned (.tuple #[.agg cs, e])) w) : bodyPost Tryd.prog fn R .ret a w := by
  refine bodyPost_ret ((results_cell_tmp hres _ _ _).trans ?_) hd hR
  rw [ht, h3]
  simp only [asAddr, Sem.run_pure, Result.andThen, hl]
theorem ret_agg {x y : Array Value} {e f : Int} (h : x = y) (h2 : e = f) : Ending.returned (.tuple #[.agg x, .int .i64 e]) = .returned (.tuple #[.agg y, .int .i64 f]) := by rw [h, h2]
end Go.Proofs.YtkpjfmnohdolaaaDoor
