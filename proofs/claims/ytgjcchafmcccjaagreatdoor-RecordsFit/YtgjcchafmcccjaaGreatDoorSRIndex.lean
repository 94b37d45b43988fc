/- Layer 6 (schema): the document's index. -/
import Derived.Test.YtgjcchafmcccjaaGreatDoorSRForm2
namespace Go.Proofs.YtgjcchafmcccjaaGreatDoor
open Go.RowKit
set_option linter.unusedVariables false

/-- The error of an index's line that has its form, and what it makes. -/
def idxP (t : Tb) (x : Ix) (ns : List ByteArray) : Int :=
  if t.xs.any (fun y => decide (y.n = x.n)) = true ∨ twiceW ns = true then 64 else
  if t.xs.length = 8 ∨ ns.length > 4 then 65 else
  if x.ov.contains (-1) then 66 else
  if mayB t x = false then 67 else 0
/-- The index's box, the table's box, the result's box. -/
structure IxB (w : World) (tb rb xb : Nat) (t : TV) (ra : Array Value) (nm : ByteArray) (v : Value) (u l s : Bool) : Prop where
  tab : w.heap[tb]? = some (.cells #[.string t.n, t.fv, t.xv] 42)
  res : w.heap[rb]? = some (.cells ra 67)
  rsz : ra.size = 5
  bx : XBox w xb nm v u l s
theorem IxB.below {w w' : World} {tb rb xb : Nat} {t : TV} {ra : Array Value} {nm : ByteArray} {v : Value} {u l s : Bool} (h : IxB w tb rb xb t ra nm v u l s) (hb : Below w.heap.size w w') : IxB w' tb rb xb t ra nm v u l s :=
  ⟨(hb.block _ (lt_blk h.tab)).trans h.tab, (hb.block _ (lt_blk h.res)).trans h.res, h.rsz, h.bx.below hb⟩

theorem IxB.xcell {w : World} {tb rb xb : Nat} {t : TV} {ra : Array Value} {nm : ByteArray} {v : Value} {u l s : Bool} (h : IxB w tb rb xb t ra nm v u l s) :
    w.cell? ⟨xb, 0, none⟩ = some (.string nm) ∧ w.cell? ⟨xb, 1, none⟩ = some v ∧ w.cell? ⟨xb, 2, none⟩ = some (.bool u) ∧ w.cell? ⟨xb, 3, none⟩ = some (.bool l) ∧ w.cell? ⟨xb, 4, none⟩ = some (.bool s) ∧ xb < w.heap.size :=
  ⟨by rw [cell_blk h.bx]; rfl, by rw [cell_blk h.bx]; rfl, by rw [cell_blk h.bx]; rfl, by rw [cell_blk h.bx]; rfl, by rw [cell_blk h.bx]; rfl, lt_blk h.bx⟩
abbrev ix0 : Array Value := #[.string ⟨#[]⟩, .slice none 0 0, .bool false, .bool false, .bool false]
theorem IxB.rcell {w : World} {tb rb xb : Nat} {t : TV} {nm : ByteArray} {v : Value} {u l s : Bool} (h : IxB w tb rb xb t ix0 nm v u l s) :
    w.cell? ⟨rb, 0, none⟩ = some (.string ⟨#[]⟩) ∧ w.cell? ⟨rb, 1, none⟩ = some (.slice none 0 0) ∧ w.cell? ⟨rb, 2, none⟩ = some (.bool false) ∧ w.cell? ⟨rb, 3, none⟩ = some (.bool false) ∧ w.cell? ⟨rb, 4, none⟩ = some (.bool false) ∧ rb < w.heap.size :=
  ⟨by rw [cell_blk h.res]; rfl, by rw [cell_blk h.res]; rfl, by rw [cell_blk h.res]; rfl, by rw [cell_blk h.res]; rfl, by rw [cell_blk h.res]; rfl, lt_blk h.res⟩
theorem IxB.rfree {w : World} {tb rb xb : Nat} {t : TV} {ra : Array Value} {nm : ByteArray} {v : Value} {u l s : Bool} (h : IxB w tb rb xb t ra nm v u l s) :
    w.frozen? ⟨rb, 0, none⟩ = false ∧ w.frozen? ⟨rb, 1, none⟩ = false ∧ w.frozen? ⟨rb, 2, none⟩ = false ∧ w.frozen? ⟨rb, 3, none⟩ = false ∧ w.frozen? ⟨rb, 4, none⟩ = false :=
  ⟨frozen_blk h.res, frozen_blk h.res, frozen_blk h.res, frozen_blk h.res, frozen_blk h.res⟩
def put5 (w : World) (rb : Nat) (n : ByteArray) (v : Value) (u l s : Bool) : World :=
  ((((w.setCell ⟨rb, 0, none⟩ (.string n)).setCell ⟨rb, 1, none⟩ v).setCell ⟨rb, 2, none⟩ (.bool u)).setCell ⟨rb, 3, none⟩ (.bool l)).setCell ⟨rb, 4, none⟩ (.bool s)
theorem put5_blk {w : World} {rb : Nat} {ty : TypeId} (h : w.heap[rb]? = some (.cells ix0 ty)) (n : ByteArray) (v : Value) (u l s : Bool) : (put5 w rb n v u l s).heap[rb]? = some (.cells #[.string n, v, .bool u, .bool l, .bool s] ty) :=
  set_blk (i := 4) (set_blk (i := 3) (set_blk (i := 2) (set_blk (i := 1) (set_blk (i := 0) h _) _) _) _) _
theorem put5_other {w : World} {rb b : Nat} (h : b ≠ rb) (n : ByteArray) (v : Value) (u l s : Bool) : (put5 w rb n v u l s).heap[b]? = w.heap[b]? := by
  unfold put5
  rw [heap_setCell_other _ _ _ _ (by simpa using h), heap_setCell_other _ _ _ _ (by simpa using h), heap_setCell_other _ _ _ _ (by simpa using h), heap_setCell_other _ _ _ _ (by simpa using h), heap_setCell_other _ _ _ _ (by simpa using h)]
theorem put5_below {w wr : World} {B rb : Nat} (h : Below B w wr) (hB : B ≤ rb) (n : ByteArray) (v : Value) (u l s : Bool) : Below B w (put5 wr rb n v u l s) :=
  ((((h.setCell hB _).setCell hB _).setCell hB _).setCell hB _).setCell hB _
theorem put5_row {w : World} {B : Nat} {e : TypeId} {size : Nat} {x : Value} {k : Nat} {L : List Value} {rb : Nat} (h : w.ownsRow B e size x k L) (hne : x.ownBlock ≠ some rb) (n : ByteArray) (v : Value) (u l s : Bool) : (put5 w rb n v u l s).ownsRow B e size x k L :=
  row_set (a := ⟨rb, 4, none⟩) (row_set (a := ⟨rb, 3, none⟩) (row_set (a := ⟨rb, 2, none⟩) (row_set (a := ⟨rb, 1, none⟩) (row_set (a := ⟨rb, 0, none⟩) h hne _) hne _) hne _) hne _) hne _
theorem ret_idx {n : ByteArray} {v : Value} {u l s : Bool} {c d : Int} (h : c = d) : Ending.returned (.tuple #[.agg #[.string n, v, .bool u, .bool l, .bool s], .int .i64 c]) = .returned (.tuple #[.agg #[.string n, v, .bool u, .bool l, .bool s], .int .i64 d]) := by rw [h]
theorem idxP_tv (t : TV) (x : Ix) (ns : List ByteArray) : idxP t.tb x ns = (if t.xs.any (fun y => decide (y.x.n = x.n)) = true ∨ twiceW ns = true then 64 else if t.xs.length = 8 ∨ ns.length > 4 then 65 else if x.ov.contains (-1) then 66 else if mayB t.tb x = false then 67 else 0) := by
  have hany : t.tb.xs.any (fun y => decide (y.n = x.n)) = t.xs.any (fun y => decide (y.x.n = x.n)) := by show (t.xs.map (·.x)).any _ = _; rw [List.any_map]; rfl
  have hxl : t.tb.xs.length = t.xs.length := by show (t.xs.map (·.x)).length = _; simp
  unfold idxP
  rw [hany, hxl]
theorem listsOf_snoc (fs : List Fd) (l : List Int) (i : Nat) (h : i < fs.length) : listsOf fs (l ++ [(i : Int)]) = listsOf fs l + (if fs[i].k = 3 then 1 else 0) := by
  unfold listsOf
  rw [List.filter_append, List.length_append]
  have : fs[i]? = some fs[i] := List.getElem?_eq_getElem h
  by_cases h3 : fs[i].k = 3
  · simp [List.filter, this, h3]
  · simp [List.filter, this, h3]
theorem listsOf_le (fs : List Fd) (l : List Int) : listsOf fs l ≤ l.length := List.length_filter_le _ _
theorem mayB_tv (t : TV) (x : Ix) : mayB t.tb x = if t.xs.length = 0 then decide (x.n = idW) && (x.u && (!x.s && decide (listsOf t.fs x.ov = 0))) else decide (listsOf t.fs x.ov < 2) := by
  have hxl : t.tb.xs.length = t.xs.length := by show (t.xs.map (·.x)).length = _; simp
  unfold mayB
  rw [hxl]
  rfl

/-- While the places of an index's fields are gathered. -/
structure IxO (w : World) (rb xb nb ca : Nat) (t : TV) (nm : ByteArray) (ns : List ByteArray) (u l s : Bool) (k : Nat) (v : Value) (wr : World) : Prop where
  bx : IxB wr w.heap.size rb xb t ix0 nm v u l s
  nr : wr.ownsRow w.heap.size 9 1 (.slice (some ⟨nb, 0, none⟩) ns.length ca) ns.length (ns.map Value.string)
  ov : wr.ownsRow w.heap.size 3 1 v k (ics ((ns.take k).map (placeF t.fs)))
  be : Below w.heap.size w wr
theorem IxO.below {w : World} {rb xb nb ca : Nat} {t : TV} {nm : ByteArray} {ns : List ByteArray} {u l s : Bool} {k : Nat} {v : Value} {wr w' : World} (h : IxO w rb xb nb ca t nm ns u l s k v wr) (hb : Below wr.heap.size wr w') : IxO w rb xb nb ca t nm ns u l s k v w' :=
  ⟨h.bx.below hb, row_below h.nr hb, row_below h.ov hb, h.be.trans (hb.mono h.be.size)⟩
theorem IxO.name {w : World} {rb xb nb ca : Nat} {t : TV} {nm : ByteArray} {ns : List ByteArray} {u l s : Bool} {k : Nat} {v : Value} {wr : World} (h : IxO w rb xb nb ca t nm ns u l s k v wr) (j : Nat) (hj : j < ns.length) : wr.cell? ⟨nb, j, none⟩ = some (.string ns[j]) := by
  obtain ⟨b1, o1, e, c⟩ := (row_cells h.nr).str j hj
  simp only [Option.some.injEq, Addr.mk.injEq] at e
  obtain ⟨rfl, rfl, _⟩ := e
  simpa using c
theorem IxO.next {w : World} {rb xb nb ca : Nat} {t : TV} {nm nk : ByteArray} {ns : List ByteArray} {u l s : Bool} {k : Nat} {va : Option Addr} {vc : Nat} {wr w4 : World} {v' : Value}
    (h : IxO w rb xb nb ca t nm ns u l s k (.slice va k vc) wr) (hg : Grew wr w4 (.slice va k vc) v')
    (ho : w4.ownsRow w.heap.size 3 1 v' (k + 1) (ics ((ns.take k).map (placeF t.fs)) ++ [.int .i64 (placeF t.fs nk)])) (hn : ns.take (k + 1) = ns.take k ++ [nk]) (hB : w.heap.size ≤ xb) (hrx : rb ≠ xb) :
    IxO w rb xb nb ca t nm ns u l s (k + 1) v' (w4.setCell ⟨xb, 1, none⟩ v') ∧ w4.cell? ⟨xb, 1, none⟩ = some (.slice va k vc) ∧ w4.frozen? ⟨xb, 1, none⟩ = false := by
  have keep : ∀ {b : Nat} {cs : Array Value} {ty : TypeId}, wr.heap[b]? = some (.cells cs ty) → 3 ≠ ty → w4.heap[b]? = some (.cells cs ty) := fun hc hne => (hg.grown.block _ (lt_blk hc) (fun e => row_ne h.ov hc hne e.symm)).trans hc
  have bx4 := keep h.bx.bx (by decide)
  have tb4 := keep h.bx.tab (by decide)
  have rb4 := keep h.bx.res (by decide)
  have other : ∀ {b : Nat} {o : Obj}, w4.heap[b]? = some o → b ≠ xb → (w4.setCell ⟨xb, 1, none⟩ v').heap[b]? = some o := fun hc hne => (heap_setCell_other _ _ _ _ (fun e => hne (by simpa using e))).trans hc
  have htx : w.heap.size ≠ xb := fun e => by
    rw [e] at tb4
    have := tb4.symm.trans bx4
    simp at this
  have nr4 := row_grew h.nr hg (rows_ne h.nr h.ov (by decide))
  refine ⟨⟨⟨other tb4 htx, other rb4 hrx, h.bx.rsz, set_blk (i := 1) bx4 v'⟩, row_set nr4 (row_ne nr4 bx4 (by decide)) _, ?_, ?_⟩, ?_, frozen_blk bx4⟩
  · have h1 : ics ((ns.take (k + 1)).map (placeF t.fs)) = ics ((ns.take k).map (placeF t.fs)) ++ [.int .i64 (placeF t.fs nk)] := by rw [hn]; simp [ics]
    rw [h1]
    exact row_set ho (row_ne ho bx4 (by decide)) _
  · exact (h.be.trans (hg.toBelow h.be.size fun j hj => (World.ownsRow.lt h.ov j hj).1)).setCell hB _
  · rw [cell_blk bx4]; rfl

theorem IxO.back {w : World} {rb xb nb ca : Nat} {t : TV} {nm : ByteArray} {ns : List ByteArray} {u l s : Bool} {k : Nat} {v : Value} {wr : World} (h : IxO w rb xb nb ca t nm ns u l s k v wr) (hB : w.heap.size ≤ rb) :
    (put5 wr rb nm v u l s).heap[rb]? = some (.cells #[.string nm, v, .bool u, .bool l, .bool s] 67) ∧ Below w.heap.size w (put5 wr rb nm v u l s) ∧ (put5 wr rb nm v u l s).ownsRow w.heap.size 3 1 v k (ics ((ns.take k).map (placeF t.fs))) :=
  ⟨put5_blk h.bx.res nm v u l s, put5_below h.be hB nm v u l s, put5_row h.ov (row_ne h.ov h.bx.res (by decide)) nm v u l s⟩

end Go.Proofs.YtgjcchafmcccjaaGreatDoor
