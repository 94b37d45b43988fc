/- Layer 6 (schema): the document's index. -/
import Derived.Test.YtbpmahchinblhaaDoorSRForm2
namespace Go.Proofs.YtbpmahchinblhaaDoor
open Go.RowKit
set_option linter.unusedVariables false

/-- The error of an index's line that has its form, and what it makes. -/
def idxP (t : Tb) (x : Ix) (ns : List ByteArray) : Int :=
  if t.xs.any (fun y => decide (y.n = x.n)) = true ∨ twiceW ns = true then 64 else
  if t.xs.length = 8 ∨ ns.length > 4 then 65 else
  if x.ov.contains (-1) then 66 else
  if mayB t x = false then 67 else 0
/-- The index's box, the table's box, the result's box. -/
structure IxB (w : World) (tb rb xb : Nat) (t : TV) (ra : Array Value) (nm : ByteArray) (v : Value) (u l s : Bool) : Prop where
  tab : w.heap[tb]? = some (.cells #[.string t.n, t.fv, t.xv] 35)
  res : w.heap[rb]? = some (.cells ra 38)
  rsz : ra.size = 5
  bx : XBox w xb nm v u l s
theorem IxB.below {w w' : World} {tb rb xb : Nat} {t : TV} {ra : Array Value} {nm : ByteArray} {v : Value} {u l s : Bool} (h : IxB w tb rb xb t ra nm v u l s) (hb : Below w.heap.size w w') : IxB w' tb rb xb t ra nm v u l s :=
  ⟨(hb.block _ (lt_blk h.tab)).trans h.tab, (hb.block _ (lt_blk h.res)).trans h.res, h.rsz, h.bx.below hb⟩

theorem IxB.xcell {w : World} {tb rb xb : Nat} {t : TV} {ra : Array Value} {nm : ByteArray} {v : Value} {u l s : Bool} (h : IxB w tb rb xb t ra nm v u l s) :
    w.cell? ⟨xb, 0, none⟩ = some (.string nm) ∧ w.cell? ⟨xb, 1, none⟩ = some v ∧ w.cell? ⟨xb, 2, none⟩ = some (.bool u) ∧ w.cell? ⟨xb, 3, none⟩ = some (.bool l) ∧ w.cell? ⟨xb, 4, none⟩ = some (.bool s) ∧ xb < w.heap.size :=
  ⟨by rw [cell_blk h.bx]; rfl, by rw [cell_blk h.bx]; rfl, by rw [cell_blk h.bx]; rfl, by rw [cell_blk h.bx]; rfl, by rw [cell_blk h.bx]; rfl, lt_blk h.bx⟩
abbrev ix0 : Array Value := #[.string ⟨#[]⟩, .slice none 0 0, .bool false, .bool false, .bool false]
theorem IxB.rcell {w : World} {tb rb xb : Nat} {t : TV} {nm : ByteArray} {v : Value} {u l s : Bool} (h : IxB w tb rb xb t ix0 nm v u l s) :
    w.cell? ⟨rb, 0, none⟩ = some (.string ⟨#[]⟩) ∧ w.cell? ⟨rb, 1, none⟩ = some (.slice none 0 0) ∧ w.cell? ⟨rb, 2, none⟩ = some (.bool false) ∧ w.cell? ⟨rb, 3, none⟩ = some (.bool false) ∧ w.cell? ⟨rb, 4, none⟩ = some (.bool false) ∧ rb < w.heap.size :=
  ⟨by rw [cell_blk h.res]; rfl, by rw [cell_blk h.res]; rfl, by rw [cell_blk h.res]; rfl, by rw [cell_blk h.res]; rfl, by rw [cell_blk h.res]; rfl, lt_blk h.res⟩
theorem IxB.rfree {w : World} {tb rb xb : Nat} {t : TV} {ra : Array Value} {nm : ByteArray} {v : Value} {u l s : Bool} (h : IxB w tb rb xb t ra nm v u l s) :
    w.frozen? ⟨rb, 0, none⟩ = false ∧ w.frozen? ⟨rb, 1, none⟩ = false ∧ w.frozen? ⟨rb, 2, none⟩ = false ∧ w.frozen? ⟨rb, 3, none⟩ = false ∧ w.frozen? ⟨rb, 4, none⟩ = false :=
  ⟨frozen_blk h.res, frozen_blk h.res, frozen_blk h.res, frozen_blk h.res, frozen_blk h.res⟩
def put5 (w : World) (rb : Nat) (n : ByteArray) (v : Value) (u l s : Bool) : World :=
  ((((w.setCell ⟨rb, 0, none⟩ (.string n)).setCell ⟨rb, 1, none⟩ v).setCell ⟨rb, 2, none⟩ (.bool u)).setCell ⟨rb, 3, none⟩ (.bool l)).setCell ⟨rb, 4, none⟩ (.bool s)
theorem put5_blk {w : World} {rb : Nat} {ty : TypeId} (h : w.heap[rb]? = some (.cells ix0 ty)) (n : ByteArray) (v : Value) (u l s : Bool) : (put5 w rb n v u l s).heap[rb]? = some (.cells #[.string n, v, .bool u, .bool l, .bool s] ty) :=
  set_blk (i := 4) (set_blk (i := 3) (set_blk (i := 2) (set_blk (i := 1) (set_blk (i := 0) h _) _) _) _) _
theorem put5_other {w : World} {rb b : Nat} (h : b ≠ rb) (n : ByteArray) (v : Value) (u l s : Bool) : (put5 w rb n v u l s).heap[b]? = w.heap[b]? := by
  unfold put5
  rw [heap_setCell_other _ _ _ _ (by simpa using h), heap_setCell_other _ _ _ _ (by simpa using h), heap_setCell_other _ _ _ _ (by simpa using h), heap_setCell_other _ _ _ _ (by simpa using h), heap_setCell_other _ _ _ _ (by simpa using h)]
theorem put5_below {w wr : World} {B rb : Nat} (h : Below B w wr) (hB : B ≤ rb) (n : ByteArray) (v : Value) (u l s : Bool) : Below B w (put5 wr rb n v u l s) :=
  ((((h.setCell hB _).setCell hB _).setCell hB _).setCell hB _).setCell hB _
theorem put5_row {w : World} {B : Nat} {e : TypeId} {size : Nat} {x : Value} {k : Nat} {L : List Value} {rb : Nat} (h : w.ownsRow B e size x k L) (hne : x.ownBlock ≠ some rb) (n : ByteArray) (v : Value) (u l s : Bool) : (put5 w rb n v u l s).ownsRow B e size x k L :=
  row_set (a := ⟨rb, 4, none⟩) (row_set (a := ⟨rb, 3, none⟩) (row_set (a := ⟨rb, 2, none⟩) (row_set (a := ⟨rb, 1, none⟩) (row_set (a := ⟨rb, 0, none⟩) h hne _) hne _) hne _) hne _) hne _
theorem idx_results {W : World} {rb : Nat} {n : ByteArray} {v : Value} {u l s : Bool} {c : Int} {tmps : Array Value} (h : W.heap[rb]? = some (.cells #[.string n, v, .bool u, .bool l, .bool s] 38)) (h4 : tmps[4]?.getD undef = .pointer (some ⟨rb, 0, none⟩)) (h5 : tmps[5]?.getD undef = .int .i64 c) :
    (results Tryd.f24 tmps).run Tryd.prog W = .ok (.tuple #[.agg #[.string n, v, .bool u, .bool l, .bool s], .int .i64 c]) W := by
  have s0 : W.cell? ⟨rb, 0, none⟩ = some (.string n) := by rw [cell_blk h]; rfl
  have s1 : W.cell? ⟨rb, 1, none⟩ = some v := by rw [cell_blk h]; rfl
  have s2 : W.cell? ⟨rb, 2, none⟩ = some (.bool u) := by rw [cell_blk h]; rfl
  have s3 : W.cell? ⟨rb, 3, none⟩ = some (.bool l) := by rw [cell_blk h]; rfl
  have s4 : W.cell? ⟨rb, 4, none⟩ = some (.bool s) := by rw [cell_blk h]; rfl
  simp [results, Tryd.results24, go_sem, h4, h5, s0, s1, s2, s3, s4]
theorem ret_idx {n : ByteArray} {v : Value} {u l s : Bool} {c d : Int} (h : c = d) : Ending.returned (.tuple #[.agg #[.string n, v, .bool u, .bool l, .bool s], .int .i64 c]) = .returned (.tuple #[.agg #[.string n, v, .bool u, .bool l, .bool s], .int .i64 d]) := by rw [h]
theorem idxP_tv (t : TV) (x : Ix) (ns : List ByteArray) : idxP t.tb x ns = (if t.xs.any (fun y => decide (y.x.n = x.n)) = true ∨ twiceW ns = true then 64 else if t.xs.length = 8 ∨ ns.length > 4 then 65 else if x.ov.contains (-1) then 66 else if mayB t.tb x = false then 67 else 0) := by
  have hany : t.tb.xs.any (fun y => decide (y.n = x.n)) = t.xs.any (fun y => decide (y.x.n = x.n)) := by show (t.xs.map (·.x)).any _ = _; rw [List.any_map]; rfl
  have hxl : t.tb.xs.length = t.xs.length := by show (t.xs.map (·.x)).length = _; simp
  unfold idxP
  rw [hany, hxl]
theorem listsOf_snoc (fs : List Fd) (l : List Int) (i : Nat) (h : i < fs.length) : listsOf fs (l ++ [(i : Int)]) = listsOf fs l + (if fs[i].k = 3 then 1 else 0) := by
  unfold listsOf
  rw [List.filter_append, List.length_append]
  have : fs[i]? = some fs[i] := List.getElem?_eq_getElem h
  by_cases h3 : fs[i].k = 3
  · simp [List.filter, this, h3]
  · simp [List.filter, this, h3]
theorem listsOf_le (fs : List Fd) (l : List Int) : listsOf fs l ≤ l.length := List.length_filter_le _ _
theorem mayB_tv (t : TV) (x : Ix) : mayB t.tb x = if t.xs.length = 0 then decide (x.n = idW) && (x.u && (!x.s && decide (listsOf t.fs x.ov = 0))) else decide (listsOf t.fs x.ov < 2) := by
  have hxl : t.tb.xs.length = t.xs.length := by show (t.xs.map (·.x)).length = _; simp
  unfold mayB
  rw [hxl]
  rfl

/-- While the places of an index's fields are gathered. -/
structure IxO (w : World) (rb xb nb ca : Nat) (t : TV) (nm : ByteArray) (ns : List ByteArray) (u l s : Bool) (k : Nat) (v : Value) (wr : World) : Prop where
  bx : IxB wr w.heap.size rb xb t ix0 nm v u l s
  nr : wr.ownsRow w.heap.size 9 1 (.slice (some ⟨nb, 0, none⟩) ns.length ca) ns.length (ns.map Value.string)
  ov : wr.ownsRow w.heap.size 3 1 v k (ics ((ns.take k).map (placeF t.fs)))
  be : Below w.heap.size w wr
theorem IxO.below {w : World} {rb xb nb ca : Nat} {t : TV} {nm : ByteArray} {ns : List ByteArray} {u l s : Bool} {k : Nat} {v : Value} {wr w' : World} (h : IxO w rb xb nb ca t nm ns u l s k v wr) (hb : Below wr.heap.size wr w') : IxO w rb xb nb ca t nm ns u l s k v w' :=
  ⟨h.bx.below hb, row_below h.nr hb, row_below h.ov hb, h.be.trans (hb.mono h.be.size)⟩
theorem IxO.name {w : World} {rb xb nb ca : Nat} {t : TV} {nm : ByteArray} {ns : List ByteArray} {u l s : Bool} {k : Nat} {v : Value} {wr : World} (h : IxO w rb xb nb ca t nm ns u l s k v wr) (j : Nat) (hj : j < ns.length) : wr.cell? ⟨nb, j, none⟩ = some (.string ns[j]) := by
  obtain ⟨b1, o1, e, c⟩ := (row_cells h.nr).str j hj
  simp only [Option.some.injEq, Addr.mk.injEq] at e
  obtain ⟨rfl, rfl, _⟩ := e
  simpa using c
theorem IxO.next {w : World} {rb xb nb ca : Nat} {t : TV} {nm nk : ByteArray} {ns : List ByteArray} {u l s : Bool} {k : Nat} {va : Option Addr} {vc : Nat} {wr w4 : World} {v' : Value}
    (h : IxO w rb xb nb ca t nm ns u l s k (.slice va k vc) wr) (hg : Grew wr w4 (.slice va k vc) v')
    (ho : w4.ownsRow w.heap.size 3 1 v' (k + 1) (ics ((ns.take k).map (placeF t.fs)) ++ [.int .i64 (placeF t.fs nk)])) (hn : ns.take (k + 1) = ns.take k ++ [nk]) (hB : w.heap.size ≤ xb) (hrx : rb ≠ xb) :
    IxO w rb xb nb ca t nm ns u l s (k + 1) v' (w4.setCell ⟨xb, 1, none⟩ v') ∧ w4.cell? ⟨xb, 1, none⟩ = some (.slice va k vc) ∧ w4.frozen? ⟨xb, 1, none⟩ = false := by
  have keep : ∀ {b : Nat} {cs : Array Value} {ty : TypeId}, wr.heap[b]? = some (.cells cs ty) → 3 ≠ ty → w4.heap[b]? = some (.cells cs ty) := fun hc hne => (hg.grown.block _ (lt_blk hc) (fun e => row_ne h.ov hc hne e.symm)).trans hc
  have bx4 := keep h.bx.bx (by decide)
  have tb4 := keep h.bx.tab (by decide)
  have rb4 := keep h.bx.res (by decide)
  have other : ∀ {b : Nat} {o : Obj}, w4.heap[b]? = some o → b ≠ xb → (w4.setCell ⟨xb, 1, none⟩ v').heap[b]? = some o := fun hc hne => (heap_setCell_other _ _ _ _ (fun e => hne (by simpa using e))).trans hc
  have htx : w.heap.size ≠ xb := fun e => by
    rw [e] at tb4
    have := tb4.symm.trans bx4
    simp at this
  have nr4 := row_grew h.nr hg (rows_ne h.nr h.ov (by decide))
  refine ⟨⟨⟨other tb4 htx, other rb4 hrx, h.bx.rsz, set_blk (i := 1) bx4 v'⟩, row_set nr4 (row_ne nr4 bx4 (by decide)) _, ?_, ?_⟩, ?_, frozen_blk bx4⟩
  · have h1 : ics ((ns.take (k + 1)).map (placeF t.fs)) = ics ((ns.take k).map (placeF t.fs)) ++ [.int .i64 (placeF t.fs nk)] := by rw [hn]; simp [ics]
    rw [h1]
    exact row_set ho (row_ne ho bx4 (by decide)) _
  · exact (h.be.trans (hg.toBelow h.be.size fun j hj => (World.ownsRow.lt h.ov j hj).1)).setCell hB _
  · rw [cell_blk bx4]; rfl

theorem IxO.back {w : World} {rb xb nb ca : Nat} {t : TV} {nm : ByteArray} {ns : List ByteArray} {u l s : Bool} {k : Nat} {v : Value} {wr : World} (h : IxO w rb xb nb ca t nm ns u l s k v wr) (hB : w.heap.size ≤ rb) :
    (put5 wr rb nm v u l s).heap[rb]? = some (.cells #[.string nm, v, .bool u, .bool l, .bool s] 38) ∧ Below w.heap.size w (put5 wr rb nm v u l s) ∧ (put5 wr rb nm v u l s).ownsRow w.heap.size 3 1 v k (ics ((ns.take k).map (placeF t.fs))) :=
  ⟨put5_blk h.bx.res nm v u l s, put5_below h.be hB nm v u l s, put5_row h.ov (row_ne h.ov h.bx.res (by decide)) nm v u l s⟩

set_option maxRecDepth 100000 in
set_option maxHeartbeats 16000000 in
theorem rindex_calls (t : TV) (g cap : Nat) (ws : List ByteArray) (w : World) (h3 : 3 ≤ ws.length) (hcap : ws.length ≤ cap) (hl : ws.length ≤ 100000) (hc : CellsAt w (some ⟨g, 0, none⟩) (ws.map Value.string)) (hs : ∀ x ∈ ws, x.size ≤ 8192)
    (ht : TOk t) (hf : CellsAt w t.fa (fcs t.fs)) (hx : CellsAt w t.xa (xcs t.xs)) (hz : (flagsW (ws.drop 3)).2.length = 0) (X : Ix) (hX : X = ⟨ws.getD 1 ⟨#[]⟩, (wsOf (ws.getD 2 ⟨#[]⟩) 44).map (placeF t.fs), (flagsW (ws.drop 3)).1.1, (flagsW (ws.drop 3)).1.2.1, (flagsW (ws.drop 3)).1.2.2⟩) :
    Calls Tryd.prog 24 #[.agg #[.string t.n, t.fv, t.xv], .slice (some ⟨g, 0, none⟩) ws.length cap] w fun e w' => Below w.heap.size w w' ∧ ∃ va vn vc, e = .returned (.tuple #[.agg #[.string X.n, .slice va vn vc, .bool X.u, .bool X.l, .bool X.s], .int .i64 (idxP t.tb X (wsOf (ws.getD 2 ⟨#[]⟩) 44))]) ∧ (idxP t.tb X (wsOf (ws.getD 2 ⟨#[]⟩) 44) = 0 → w'.ownsRow w.heap.size 3 1 (.slice va vn vc) X.ov.length (ics X.ov)) := by
  obtain ⟨Xn, Xov, Xu, Xl, Xs⟩ := X
  dsimp only
  have hcell : ∀ k (h : k < ws.length), w.cell? ⟨g, k, none⟩ = some (.string ws[k]) := fun k h => by
    obtain ⟨b1, o1, e, c⟩ := hc.str k h
    simp only [Option.some.injEq, Addr.mk.injEq] at e
    obtain ⟨rfl, rfl, _⟩ := e
    simpa using c
  have c1 := hcell 1 (by omega)
  have c2 := hcell 2 (by omega)
  obtain ⟨wl, hwl⟩ : ∃ wl, ws.length = wl + 3 := ⟨ws.length - 3, by omega⟩
  have hdl : (ws.drop 3).length = wl := by simp; omega
  have hcd : CellsAt w (some ⟨g, 3, none⟩) ((ws.drop 3).map Value.string) := by
    have := hc.drop 3
    rw [List.map_drop]
    simpa using this
  have hsl := drop3_run g wl cap (by omega)
  obtain ⟨ao5, c5, e5, hc5, hcap5⟩ := restV_form (w := w) (wl := wl) (cap := cap) (show ((ws.drop 3).map Value.string).length = wl by rw [List.length_map]; exact hdl) (by omega) hcd
  rw [e5] at hsl
  have HFL : Hid (∀ W, Below w.heap.size w W → Calls Tryd.prog 21 #[.slice ao5 wl c5] W fun e w' => e = .returned (.tuple #[.bool Xu, .bool Xl, .bool Xs, .bool true]) ∧ w' = W) := fun W hW => by
    have := rflags_calls ao5 c5 (ws.drop 3) W (by omega) (hc5.below hW)
    rw [hdl, decide_eq_true hz] at this
    exact (by have hu := congrArg Ix.u hX; have hl' := congrArg Ix.l hX; have hs' := congrArg Ix.s hX; dsimp only at hu hl' hs'; rw [hu, hl', hs']; exact this)
  obtain ⟨n1, hn1⟩ : ∃ n1, n1 = ws[1] := ⟨_, rfl⟩
  obtain ⟨n2, hn2⟩ : ∃ n2, n2 = ws[2] := ⟨_, rfl⟩
  have HN1 : Hid (n1.size ≤ 8192 ∧ n2.size ≤ 8192) := ⟨hn1 ▸ hs _ (List.getElem_mem _), hn2 ▸ hs _ (List.getElem_mem _)⟩
  rw [word_at (by omega : 1 < ws.length), word_at (by omega : 2 < ws.length), ← hn1, ← hn2] at hX
  rw [word_at (by omega : 2 < ws.length), ← hn2]
  rw [← hn1] at c1
  rw [← hn2] at c2
  have HXn : Hid (n1 = Xn) := (congrArg Ix.n hX).symm
  have HXo : Hid (Xov = (wsOf n2 44).map (placeF t.fs)) := congrArg Ix.ov hX
  rw [HXn.out] at c1
  rw [hwl]
  have HSp : Hid (∀ W, Calls Tryd.prog 9 #[.string n2, .int .u8 44] W fun e w' => ∃ v, e = .returned v ∧ w'.ownsRow W.heap.size 9 1 v (wsOf n2 44).length ((wsOf n2 44).map Value.string) ∧ Below W.heap.size W w') := fun W => rsplit_calls n2 44 W HN1.out.2
  have HF : Hid (CellsAt w t.fa (fcs t.fs)) := hf
  have HX : Hid (CellsAt w t.xa (xcs t.xs)) := hx
  have HOK : Hid (TOk t) := ht
  have hgw : g < w.heap.size := World.block_lt_of_cell? w _ c1
  clear hc hcell hs hf hx ht hz hX e5 hc5 hcd hdl h3 hwl hn1 hn2
  obtain ⟨tn, fs, fa, fc, xs, xa, xc⟩ := t
  dsimp only [TV.fv, TV.xv] at *
  go_enter Tryd.func24, Tryd.ntmps24
  go_upto_region 2 with fail
  obtain ⟨w2, hw2⟩ : ∃ w2, w2 = (((w.alloc (.cells #[.string tn, .slice fa fs.length fc, .slice xa xs.length xc] 35)).alloc (.cells #[.string ⟨#[]⟩, .slice none 0 0, .bool false, .bool false, .bool false] 38)).alloc (.cells #[.string Xn, .slice none 0 0, .bool false, .bool false, .bool false] 38)) := ⟨_, rfl⟩
  rw [← hw2]
  have hb2 : Below w.heap.size w w2 := by rw [hw2]; exact (((Below.refl _ _).alloc (Nat.le_refl _) _).alloc (by simp only [World.size_alloc]; omega) _).alloc (by simp only [World.size_alloc]; omega) _
  obtain ⟨xb, hxb⟩ : ∃ xb, xb = w.heap.size + 1 + 1 := ⟨_, rfl⟩
  obtain ⟨rb, hrb⟩ : ∃ rb, rb = w.heap.size + 1 := ⟨_, rfl⟩
  have HB2 : Hid (IxB w2 w.heap.size rb xb ⟨tn, fs, fa, fc, xs, xa, xc⟩ ix0 Xn (.slice none 0 0) false false false) := by
    refine ⟨?_, ?_, rfl, ?_⟩
    · rw [hw2]; exact old_blk (old_blk (new_blk _ _) _) _
    · rw [hw2, hrb]; refine old_blk ?_ _; have := new_blk (w.alloc (.cells #[.string tn, .slice fa fs.length fc, .slice xa xs.length xc] 35)) (.cells #[.string ⟨#[]⟩, .slice none 0 0, .bool false, .bool false, .bool false] 38); rw [World.size_alloc] at this; exact this
    · rw [XBox, hw2, hxb]; have := new_blk ((w.alloc (.cells #[.string tn, .slice fa fs.length fc, .slice xa xs.length xc] 35)).alloc (.cells #[.string ⟨#[]⟩, .slice none 0 0, .bool false, .bool false, .bool false] 38)) (.cells #[.string Xn, .slice none 0 0, .bool false, .bool false, .bool false] 38); rw [World.size_alloc, World.size_alloc] at this; exact this
  have HLE : Hid (w.heap.size ≤ rb ∧ w.heap.size ≤ xb ∧ rb ≠ xb) := ⟨by omega, by omega, by omega⟩
  rw [← hxb, ← hrb]
  have c2' : w2.cell? ⟨g, 2, none⟩ = some (.string n2) := by rw [hb2.cell (by exact hgw)]; exact c2
  clear hw2 c1 c2 hxb hrb
  go_wp2_with fail
  refine (HFL.out _ hb2).mono ?_
  clear HFL
  rintro e w' ⟨rfl, hw'⟩
  rw [hw']
  clear hw'
  have x2 : w2.cell? ⟨xb, 2, none⟩ = some (.bool false) := by rw [cell_blk HB2.out.bx]; rfl
  have x3 : w2.cell? ⟨xb, 3, none⟩ = some (.bool false) := by rw [cell_blk HB2.out.bx]; rfl
  have x4 : w2.cell? ⟨xb, 4, none⟩ = some (.bool false) := by rw [cell_blk HB2.out.bx]; rfl
  have z2 : w2.frozen? ⟨xb, 2, none⟩ = false := frozen_blk HB2.out.bx
  have z3 : w2.frozen? ⟨xb, 3, none⟩ = false := frozen_blk HB2.out.bx
  have z4 : w2.frozen? ⟨xb, 4, none⟩ = false := frozen_blk HB2.out.bx
  go_upto_region 3 with fail
  obtain ⟨w3, hw3⟩ : ∃ w3, w3 = (((w2.setCell ⟨xb, 2, none⟩ (.bool Xu)).setCell ⟨xb, 3, none⟩ (.bool Xl)).setCell ⟨xb, 4, none⟩ (.bool Xs)) := ⟨_, rfl⟩
  rw [← hw3]
  have hb3 : Below w.heap.size w w3 := by rw [hw3]; exact ((hb2.setCell HLE.out.2.1 _).setCell HLE.out.2.1 _).setCell HLE.out.2.1 _
  have HB3 : Hid (IxB w3 w.heap.size rb xb ⟨tn, fs, fa, fc, xs, xa, xc⟩ ix0 Xn (.slice none 0 0) Xu Xl Xs) := by
    have hxw := lt_blk HB2.out.bx
    have h1 := HLE.out.2.2
    have h2 : w.heap.size ≠ xb := fun e => by
      have := HB2.out.tab
      rw [e] at this
      have := this.symm.trans HB2.out.bx
      simp at this
    refine ⟨?_, ?_, rfl, ?_⟩
    · rw [hw3, heap_setCell_other _ _ _ _ (by simpa using h2), heap_setCell_other _ _ _ _ (by simpa using h2), heap_setCell_other _ _ _ _ (by simpa using h2)]; exact HB2.out.tab
    · rw [hw3, heap_setCell_other _ _ _ _ (by simpa using h1), heap_setCell_other _ _ _ _ (by simpa using h1), heap_setCell_other _ _ _ _ (by simpa using h1)]; exact HB2.out.res
    · rw [XBox, hw3]; exact set_blk (i := 4) (set_blk (i := 3) (set_blk (i := 2) HB2.out.bx _) _) _
  have c2 : w3.cell? ⟨g, 2, none⟩ = some (.string n2) := by rw [hb3.cell (by exact hgw)]; rw [hb2.cell (by exact hgw)] at c2'; exact c2'
  clear hw3 c2' hb2 HB2 x2 x3 x4 z2 z3 z4
  go_wp2_with fail
  refine (HSp.out _).mono ?_
  clear HSp
  rintro e w4 ⟨v, rfl, hr, hb⟩
  obtain ⟨ao, ca, rfl, hao⟩ := row_forms hr
  obtain ⟨nb, rfl⟩ := hao (by rw [wsOf_length]; omega)
  have hmost := wsOf_most n2 44
  have hn28 := HN1.out.2
  have HNR : Hid (w4.ownsRow w.heap.size 9 1 (.slice (some ⟨nb, 0, none⟩) (wsOf n2 44).length ca) (wsOf n2 44).length ((wsOf n2 44).map Value.string)) := row_mono hr hb3.size
  have HB4 : Hid (IxB w4 w.heap.size rb xb ⟨tn, fs, fa, fc, xs, xa, xc⟩ ix0 Xn (.slice none 0 0) Xu Xl Xs) := HB3.out.below hb
  have H4 : Hid (Below w.heap.size w w4) := hb3.trans (hb.mono hb3.size)
  obtain ⟨ns, hns⟩ : ∃ ns, ns = wsOf n2 44 := ⟨_, rfl⟩
  have HNS : Hid (wsOf n2 44 = ns) := hns.symm
  rw [← hns] at HNR HXo hmost ⊢
  have hnl : ns.length ≤ 9000 := by omega
  clear hr hao hb hns c2 hb3 HB3 hmost HN1 hn28 hsl
  have hxm := HOK.out.xmost
  have hfm := HOK.out.fmost
  dsimp only at hxm hfm
  have t2 : w4.cell? ⟨w.heap.size, 2, none⟩ = some (.slice xa xs.length xc) := by rw [cell_blk HB4.out.tab]; rfl
  have HIP : Hid (idxP (TV.mk tn fs fa fc xs xa xc).tb ⟨Xn, Xov, Xu, Xl, Xs⟩ (wsOf n2 44) = if xs.any (fun y => decide (y.x.n = Xn)) = true ∨ twiceW ns = true then 64 else if xs.length = 8 ∨ ns.length > 4 then 65 else if Xov.contains (-1) then 66 else if mayB (TV.mk tn fs fa fc xs xa xc).tb ⟨Xn, Xov, Xu, Xl, Xs⟩ = false then 67 else 0) := by
    rw [Hid, HNS.out]
    exact idxP_tv ⟨tn, fs, fa, fc, xs, xa, xc⟩ ⟨Xn, Xov, Xu, Xl, Xs⟩ ns
  have HI4 : Hid (IxO w rb xb nb ca ⟨tn, fs, fa, fc, xs, xa, xc⟩ Xn ns Xu Xl Xs 0 (.slice none 0 0) w4) := ⟨HB4.out, HNR.out, ⟨rfl, .inl ⟨rfl, rfl⟩⟩, H4.out⟩
  clear HNR HB4 H4
  go_wp2
  go_loopw [9, 38] (fun a9 x wr => ∃ k : Nat, k ≤ xs.length ∧ x = .int .i64 k ∧ Hid (noneTo (fun x => decide (x.x.n = Xn)) xs k) ∧ Hid (IxO w rb xb nb ca ⟨tn, fs, fa, fc, xs, xa, xc⟩ Xn ns Xu Xl Xs 0 (.slice none 0 0) wr)) (fun _ x _ => xs.length - (intOf x).toNat)
  case atStart => exact ⟨0, Nat.zero_le _, rfl, noneTo.zero _ _, HI4⟩
  case round =>
    obtain ⟨k, hk, rfl, HK, HI⟩ := hrel
    clear HI4 t2
    obtain ⟨x0, x1, x2, x3, x4, hxlt⟩ := HI.out.bx.xcell
    obtain ⟨r0, r1, r2, r3, r4, hrlt⟩ := HI.out.bx.rcell
    obtain ⟨z0, z1, z2, z3, z4⟩ := HI.out.bx.rfree
    by_cases hlt : k < xs.length
    · obtain ⟨b, off, rfl, c0, c1, c2, c3, c4⟩ := (HX.out.below HI.out.be).idx k hlt
      by_cases e1 : xs[k].x.n = Xn
      · have q1 : (xs[k].x.n.toList == Xn.toList) = true := by rw [beq_toList]; simpa using e1
        have HE : Hid (64 = idxP (TV.mk tn fs (fa) fc xs (some ⟨b, off, none⟩) xc).tb ⟨Xn, Xov, Xu, Xl, Xs⟩ (wsOf n2 44)) := by rw [Hid, HIP.out, if_pos (.inl (any_at _ _ k hlt (by simpa using e1)).symm)]
        clear e1
        go_wp2
        have hE := HI.out.back HLE.out.1
        refine bodyPost_ret (idx_results (old_blk hE.1 _) rfl rfl) rfl ⟨hE.2.1.alloc hE.2.1.size _, _, _, _, ret_idx HE.out, fun h => ?_⟩
        rw [← HE.out] at h
        cases h
      · have HE : Hid (decide (xs[k].x.n = Xn) = false) := by simpa [Hid] using e1
        have q1 : (xs[k].x.n.toList == Xn.toList) = false := by rw [beq_toList]; simpa using e1
        clear e1
        go_wp2
        go_roundw
        case rel => exact ⟨k + 1, by omega, by go_num, HK.out.succ hlt HE.out, HI.out.below ((Below.refl _ _).alloc (Nat.le_refl _) _)⟩
        case measure => simp [intOf]; omega
    · have HA : Hid (xs.any (fun x => decide (x.x.n = Xn)) = false) := (HK.out.any (by omega)).symm
      clear HK
      obtain ⟨w5, hw5⟩ : ∃ w0, w0 = wr := ⟨_, rfl⟩
      subst hw5
      go_wp2
      go_loopw [10, 11, 51] (fun a10 a11 x wr => ∃ i : Nat, i ≤ ns.length ∧ x = .int .i64 i ∧ Hid (onceTo ns i) ∧ Hid (IxO w rb xb nb ca ⟨tn, fs, fa, fc, xs, xa, xc⟩ Xn ns Xu Xl Xs 0 (.slice none 0 0) wr)) (fun _ _ x _ => ns.length - (intOf x).toNat)
      case atStart => exact ⟨0, Nat.zero_le _, rfl, fun i h h' => by omega, HI⟩
      case round =>
        obtain ⟨i, hi, rfl, HK, HI⟩ := hrel
        clear x0 x1 x2 x3 x4 hxlt r0 r1 r2 r3 r4 hrlt z0 z1 z2 z3 z4
        by_cases hil : i < ns.length
        · obtain ⟨w6, hw6⟩ : ∃ w0, w0 = wr := ⟨_, rfl⟩
          subst hw6
          go_wp2
          go_loopw [11, 55] (fun a11 x wr => ∃ j : Nat, j ≤ i ∧ x = .int .i64 j ∧ Hid (∀ q (h : q < ns.length), q < j → ns[q] ≠ ns[i]) ∧ Hid (IxO w rb xb nb ca ⟨tn, fs, fa, fc, xs, xa, xc⟩ Xn ns Xu Xl Xs 0 (.slice none 0 0) wr)) (fun _ x _ => i - (intOf x).toNat)
          case atStart => exact ⟨0, Nat.zero_le _, rfl, fun q h h' => by omega, HI⟩
          case round =>
            obtain ⟨j, hj, rfl, HJ, HI⟩ := hrel
            by_cases hjl : j < i
            · have hjn : j < ns.length := by omega
              have c0 := HI.out.name i hil
              have c1 := HI.out.name j hjn
              by_cases e1 : ns[i] = ns[j]
              · have q1 : (ns[i].toList == ns[j].toList) = true := by rw [beq_toList]; simpa using e1
                have HE : Hid (64 = idxP (TV.mk tn fs fa fc xs xa xc).tb ⟨Xn, Xov, Xu, Xl, Xs⟩ (wsOf n2 44)) := by
                  rw [Hid, HIP.out, if_pos (.inr (twice_at hil (by rw [e1]; exact List.mem_take_iff_getElem.2 ⟨j, by omega, rfl⟩)).symm)]
                obtain ⟨x0, x1, x2, x3, x4, hxlt⟩ := HI.out.bx.xcell
                obtain ⟨r0, r1, r2, r3, r4, hrlt⟩ := HI.out.bx.rcell
                obtain ⟨z0, z1, z2, z3, z4⟩ := HI.out.bx.rfree
                clear e1
                go_wp2
                go_quiet (fail)
                go_wp2
                have hE := (HI.out.below (below_draws wr nq)).back HLE.out.1
                refine bodyPost_ret (idx_results hE.1 rfl rfl) rfl ⟨hE.2.1, _, _, _, ret_idx HE.out, fun h => ?_⟩
                rw [← HE.out] at h
                cases h
              · have q1 : (ns[i].toList == ns[j].toList) = false := by rw [beq_toList]; simpa using e1
                have HE : Hid (ns[j] ≠ ns[i]) := fun e => e1 e.symm
                clear e1
                go_wp2
                go_quiet (fail)
                go_wp2
                go_roundw
                case rel => exact ⟨j + 1, by omega, by go_num, fun q h h' => by rcases Nat.lt_or_ge q j with h2 | h2; exact HJ.out q h h2; (obtain rfl : q = j := by omega); exact HE.out, HI.out.below (below_draws wr nq)⟩
                case measure => simp [intOf]; omega
            · have HE : Hid (ns[i] ∉ ns.take i) := by
                intro hm
                obtain ⟨q, hq, e⟩ := List.mem_take_iff_getElem.1 hm
                exact HJ.out q (by omega) (by omega) e
              clear HJ
              go_wp2
              go_roundw
              case rel => exact ⟨i + 1, by omega, by go_num, HK.out.succ hil HE.out, HI⟩
              case measure => simp [intOf]; omega
        · have HT : Hid (twiceW ns = false) := (twice_none (by omega) HK.out).symm
          clear HK
          obtain ⟨w6, hw6⟩ : ∃ w0, w0 = wr := ⟨_, rfl⟩
          subst hw6
          have t2 : w6.cell? ⟨w.heap.size, 2, none⟩ = some (.slice xa xs.length xc) := by rw [cell_blk HI.out.bx.tab]; rfl
          by_cases h8 : xs.length = 8 ∨ ns.length > 4
          · have HE : Hid (65 = idxP (TV.mk tn fs fa fc xs xa xc).tb ⟨Xn, Xov, Xu, Xl, Xs⟩ (wsOf n2 44)) := by rw [Hid, HIP.out, HA.out, HT.out, if_neg (by simp), if_pos h8]
            obtain ⟨x0, x1, x2, x3, x4, hxlt⟩ := HI.out.bx.xcell
            obtain ⟨r0, r1, r2, r3, r4, hrlt⟩ := HI.out.bx.rcell
            obtain ⟨z0, z1, z2, z3, z4⟩ := HI.out.bx.rfree
            have hE := HI.out.back HLE.out.1
            by_cases h9 : xs.length = 8
            · have q1 : (8 : Int) ≤ (xs.length : Int) := by omega
              clear h8 h9
              go_wp2
              refine bodyPost_ret (idx_results hE.1 rfl rfl) rfl ⟨hE.2.1, _, _, _, ret_idx HE.out, fun h => ?_⟩
              rw [← HE.out] at h
              cases h
            · have q1 : ¬ ((8 : Int) ≤ (xs.length : Int)) := by omega
              have q2 : (4 : Int) < (ns.length : Int) := by omega
              clear h8 h9
              go_wp2
              refine bodyPost_ret (idx_results hE.1 rfl rfl) rfl ⟨hE.2.1, _, _, _, ret_idx HE.out, fun h => ?_⟩
              rw [← HE.out] at h
              cases h
          · have HIP2 : Hid (idxP (TV.mk tn fs fa fc xs xa xc).tb ⟨Xn, Xov, Xu, Xl, Xs⟩ (wsOf n2 44) = if Xov.contains (-1) then 66 else if mayB (TV.mk tn fs fa fc xs xa xc).tb ⟨Xn, Xov, Xu, Xl, Xs⟩ = false then 67 else 0) := by rw [Hid, HIP.out, HA.out, HT.out, if_neg (by simp), if_neg h8]
            have q1 : ¬ ((8 : Int) ≤ (xs.length : Int)) := by omega
            have q2 : ¬ ((4 : Int) < (ns.length : Int)) := by omega
            have hn4 : ns.length ≤ 4 := by omega
            clear h8 HIP HA HT
            go_wp2
            go_loopw [12, 14, 15, 82] (fun a12 a14 a15 x wr => ∃ (k L : Nat) (va : Option Addr) (vc : Nat), k ≤ ns.length ∧ x = .int .i64 k ∧ a12 = .int .i64 L ∧ L ≤ k ∧ Hid (L = listsOf fs ((ns.take k).map (placeF fs))) ∧ Hid (noneTo (fun n => decide (placeF fs n = -1)) ns k) ∧ Hid (IxO w rb xb nb ca ⟨tn, fs, fa, fc, xs, xa, xc⟩ Xn ns Xu Xl Xs k (.slice va k vc) wr)) (fun _ _ _ x _ => ns.length - (intOf x).toNat)
            case atStart => exact ⟨0, 0, none, 0, Nat.zero_le _, rfl, rfl, Nat.le_refl _, rfl, noneTo.zero _ _, HI⟩
            case round =>
              obtain ⟨k, L, va, vc, hk, rfl, rfl, hL, HL, HN, HI⟩ := hrel
              clear t2
              by_cases hkl : k < ns.length
              · have c0 := HI.out.name k hkl
                have t0 : wr.cell? ⟨w.heap.size, 0, none⟩ = some (.string tn) := by rw [cell_blk HI.out.bx.tab]; rfl
                have t1 : wr.cell? ⟨w.heap.size, 1, none⟩ = some (.slice fa fs.length fc) := by rw [cell_blk HI.out.bx.tab]; rfl
                have t2 : wr.cell? ⟨w.heap.size, 2, none⟩ = some (.slice xa xs.length xc) := by rw [cell_blk HI.out.bx.tab]; rfl
                have HFC : Hid (Calls Tryd.prog 23 #[.agg #[.string tn, .slice fa fs.length fc, .slice xa xs.length xc], .string ns[k]] wr fun e w' => e = .returned (.int .i64 (placeF fs ns[k])) ∧ Below wr.heap.size wr w') := rfield_calls ⟨tn, fs, fa, fc, xs, xa, xc⟩ ns[k] wr hfm (HF.out.below HI.out.be)
                go_wp2_with fail
                refine HFC.out.mono ?_
                clear HFC
                rintro e w7 ⟨rfl, hb7⟩
                have HI7 : Hid (IxO w rb xb nb ca ⟨tn, fs, fa, fc, xs, xa, xc⟩ Xn ns Xu Xl Xs k (.slice va k vc) w7) := HI.out.below hb7
                clear hb7 t0 t1 t2 c0 HI
                obtain ⟨x0, x1, x2, x3, x4, hxlt⟩ := HI7.out.bx.xcell
                rcases place_range fs ns[k] with hp | ⟨hp0, hp1⟩
                · have HE : Hid (66 = idxP (TV.mk tn fs fa fc xs xa xc).tb ⟨Xn, Xov, Xu, Xl, Xs⟩ (wsOf n2 44)) := by
                    rw [Hid, HIP2.out, if_pos]
                    rw [HXo.out, List.contains_iff_mem, ← hp]
                    exact List.mem_map_of_mem (List.getElem_mem hkl)
                  rw [hp]
                  clear hp
                  obtain ⟨r0, r1, r2, r3, r4, hrlt⟩ := HI7.out.bx.rcell
                  obtain ⟨z0, z1, z2, z3, z4⟩ := HI7.out.bx.rfree
                  have hE := HI7.out.back HLE.out.1
                  go_wp2
                  refine bodyPost_ret (idx_results hE.1 rfl rfl) rfl ⟨hE.2.1, _, _, _, ret_idx HE.out, fun h => ?_⟩
                  rw [← HE.out] at h
                  cases h
                · obtain ⟨p, hp⟩ : ∃ p : Nat, placeF fs ns[k] = (p : Int) := ⟨(placeF fs ns[k]).toNat, by omega⟩
                  have hpl : p < fs.length := by omega
                  obtain ⟨fb, fo, rfl, f0, f1⟩ := (HF.out.below HI7.out.be).fld p hpl
                  have HNk : Hid (decide (placeF fs ns[k] = -1) = false) := by rw [Hid, hp, decide_eq_false_iff_not]; omega
                  have HTk : Hid (ns.take (k + 1) = ns.take k ++ [ns[k]]) := by rw [Hid, List.take_succ_eq_append_getElem hkl]
                  have HP : Hid (placeF fs ns[k] = (p : Int)) := hp
                  have HL2 : Hid (listsOf fs ((ns.take (k + 1)).map (placeF fs)) = L + if fs[p].k = 3 then 1 else 0) := by
                    rw [Hid, HTk.out, List.map_append, List.map_cons, List.map_nil, hp, listsOf_snoc fs _ p hpl, ← HL.out]
                  rw [hp]
                  clear hp hp0 hp1 HL
                  have t1 : w7.cell? ⟨w.heap.size, 1, none⟩ = some (.slice (some ⟨fb, fo, none⟩) fs.length fc) := by rw [cell_blk HI7.out.bx.tab]; rfl
                  have hov := HI7.out.ov
                  have hsz := HI7.out.be.size
                  by_cases hk3 : fs[p].k = 3
                  · rw [hk3] at f1
                    rw [if_pos hk3] at HL2
                    clear hk3
                    go_wp2_with (at_builtin; refine append_row _ rfl (.tmp 102) (.tmp 104) _ 3 _ 1 8 Tryd.underlying36 info_num rfl (by decide) rfl w.heap.size _ k _ rfl [.int .i64 p] rfl (by simp [Value.oneCell']) _ _ rfl rfl rfl hov (by omega) (by omega) hsz ?_)
                    intro v8 w8 ho8 hg8
                    rw [← List.map_take, ← HP.out] at ho8
                    have hnx := HI7.out.next hg8 ho8 HTk.out HLE.out.2.1 HLE.out.2.2
                    have s1 := hnx.2.1
                    have z1 := hnx.2.2
                    obtain ⟨va8, vc8, rfl, -⟩ := row_forms ho8
                    have HI8 : Hid _ := hnx.1
                    clear hg8 ho8 hov x0 x1 x2 x3 x4 hnx
                    go_wp2
                    go_roundw
                    case rel => exact ⟨k + 1, L + 1, va8, vc8, by omega, by go_num, by go_num, by omega, HL2.out.symm, HN.out.succ hkl HNk.out, HI8⟩
                    case measure => simp [intOf]; omega
                  · have q3 : (fs[p].k == 3) = false := by simpa using hk3
                    rw [if_neg hk3] at HL2
                    clear hk3
                    go_wp2_with (at_builtin; refine append_row _ rfl (.tmp 102) (.tmp 104) _ 3 _ 1 8 Tryd.underlying36 info_num rfl (by decide) rfl w.heap.size _ k _ rfl [.int .i64 p] rfl (by simp [Value.oneCell']) _ _ rfl rfl rfl hov (by omega) (by omega) hsz ?_)
                    intro v8 w8 ho8 hg8
                    rw [← List.map_take, ← HP.out] at ho8
                    have hnx := HI7.out.next hg8 ho8 HTk.out HLE.out.2.1 HLE.out.2.2
                    have s1 := hnx.2.1
                    have z1 := hnx.2.2
                    obtain ⟨va8, vc8, rfl, -⟩ := row_forms ho8
                    have HI8 : Hid _ := hnx.1
                    clear hg8 ho8 hov x0 x1 x2 x3 x4 hnx
                    go_wp2
                    go_roundw
                    case rel => exact ⟨k + 1, L, va8, vc8, by omega, by go_num, rfl, by omega, HL2.out.symm, HN.out.succ hkl HNk.out, HI8⟩
                    case measure => simp [intOf]; omega
              · obtain rfl : k = ns.length := by omega
                have HI0 := HI.out
                rw [show ns.take ns.length = ns from List.take_length, ← HXo.out] at HL
                have HXL : Hid (Xov.length = ns.length) := by rw [Hid, HXo.out, List.length_map]
                have HC : Hid (idxP (TV.mk tn fs fa fc xs xa xc).tb ⟨Xn, Xov, Xu, Xl, Xs⟩ (wsOf n2 44) = if mayB (TV.mk tn fs fa fc xs xa xc).tb ⟨Xn, Xov, Xu, Xl, Xs⟩ = false then 67 else 0) := by
                  rw [Hid, HIP2.out, if_neg]
                  rw [HXo.out, List.contains_iff_mem]
                  intro hm
                  obtain ⟨n, hn, e⟩ := List.mem_map.1 hm
                  obtain ⟨j, hj, rfl⟩ := List.getElem_of_mem hn
                  have := HN.out j hj hj
                  simp [e] at this
                have HM : Hid (mayB (TV.mk tn fs fa fc xs xa xc).tb ⟨Xn, Xov, Xu, Xl, Xs⟩ = if xs.length = 0 then decide (Xn = idW) && (Xu && (!Xs && decide (L = 0))) else decide (L < 2)) := by rw [Hid, mayB_tv, HL.out]
                obtain ⟨x0, x1, x2, x3, x4, hxlt⟩ := HI.out.bx.xcell
                obtain ⟨r0, r1, r2, r3, r4, hrlt⟩ := HI.out.bx.rcell
                obtain ⟨z0, z1, z2, z3, z4⟩ := HI.out.bx.rfree
                have hE := HI.out.back HLE.out.1
                have hE3 : (put5 wr rb Xn (.slice va ns.length vc) Xu Xl Xs).ownsRow w.heap.size 3 1 (.slice va ns.length vc) Xov.length (ics Xov) := by
                  have := hE.2.2
                  rw [show ns.take ns.length = ns from List.take_length] at this
                  rw [HXL.out, HXo.out]
                  exact this
                have HE1 : Hid _ := hE.1
                have HE2 : Hid _ := hE.2.1
                have HE3 : Hid _ := hE3
                have t2 : wr.cell? ⟨w.heap.size, 2, none⟩ = some (.slice xa xs.length xc) := by rw [cell_blk HI.out.bx.tab]; rfl
                clear hE hE3 HI0 HL HN HI hL HXL HIP2
                have h67 : Hid (mayB (TV.mk tn fs fa fc xs xa xc).tb ⟨Xn, Xov, Xu, Xl, Xs⟩ = false → 67 = idxP (TV.mk tn fs fa fc xs xa xc).tb ⟨Xn, Xov, Xu, Xl, Xs⟩ (wsOf n2 44)) := fun h => by rw [HC.out, if_pos h]
                have h00 : Hid (mayB (TV.mk tn fs fa fc xs xa xc).tb ⟨Xn, Xov, Xu, Xl, Xs⟩ = true → 0 = idxP (TV.mk tn fs fa fc xs xa xc).tb ⟨Xn, Xov, Xu, Xl, Xs⟩ (wsOf n2 44)) := fun h => by rw [HC.out, if_neg (by rw [h]; simp)]
                have qn : (Xn.toList == [105, 100]) = decide (Xn = idW) := beq_lit Xn [105, 100]
                clear HC
                generalize xs.length = xl at *
                by_cases hL1 : 1 < L
                · have hL0 : ¬ L = 0 := by omega
                  have hL2 : ¬ L < 2 := by omega
                  have HE : Hid _ := h67.out (by rw [HM.out, decide_eq_false hL0, decide_eq_false hL2]; split <;> simp)
                  have q3 : (1 : Int) < (L : Int) := by omega
                  clear h67 h00 hL1 hL0 hL2 HM
                  go_wp2
                  refine bodyPost_ret (idx_results (c := 67) HE1.out rfl rfl) rfl ⟨HE2.out, _, _, _, ret_idx HE.out, fun h => ?_⟩
                  rw [← HE.out] at h
                  cases h
                · have q3 : decide ((1 : Int) < (L : Int)) = false := by rw [decide_eq_false_iff_not]; omega
                  by_cases hx0 : xl = 0
                  · rw [if_pos hx0] at HM
                    subst hx0
                    by_cases hid : Xn = idW
                    · have q5 : (Xn.toList == [105, 100]) = true := by rw [qn]; simpa using hid
                      rw [decide_eq_true hid] at HM
                      clear qn hid hL1
                      cases Xu with
                      | false =>
                        have HE : Hid _ := h67.out (by rw [HM.out]; rfl)
                        clear h67 h00
                        go_wp2
                        refine bodyPost_ret (idx_results (c := 67) HE1.out rfl rfl) rfl ⟨HE2.out, _, _, _, ret_idx HE.out, fun h => ?_⟩
                        rw [← HE.out] at h
                        cases h
                      | true =>
                        cases Xs with
                        | true =>
                          have HE : Hid _ := h67.out (by rw [HM.out]; rfl)
                          clear h67 h00
                          go_wp2
                          refine bodyPost_ret (idx_results (c := 67) HE1.out rfl rfl) rfl ⟨HE2.out, _, _, _, ret_idx HE.out, fun h => ?_⟩
                          rw [← HE.out] at h
                          cases h
                        | false =>
                          by_cases hL0 : L = 0
                          · have HE : Hid _ := h00.out (by rw [HM.out, decide_eq_true hL0]; rfl)
                            subst hL0
                            clear h67 h00
                            go_wp2
                            exact bodyPost_ret (idx_results (c := 0) HE1.out rfl rfl) rfl ⟨HE2.out, _, _, _, ret_idx HE.out, fun h => HE3.out⟩
                          · have HE : Hid _ := h67.out (by rw [HM.out, decide_eq_false hL0]; rfl)
                            have q6 : (0 : Int) < (L : Int) := by omega
                            clear h67 h00 hL0
                            go_wp2
                            refine bodyPost_ret (idx_results (c := 67) HE1.out rfl rfl) rfl ⟨HE2.out, _, _, _, ret_idx HE.out, fun h => ?_⟩
                            rw [← HE.out] at h
                            cases h
                    · have q5 : (Xn.toList == [105, 100]) = false := by rw [qn]; simpa using hid
                      have HE : Hid _ := h67.out (by rw [HM.out, decide_eq_false hid]; rfl)
                      clear h67 h00 qn hid HM hL1
                      go_wp2
                      refine bodyPost_ret (idx_results (c := 67) HE1.out rfl rfl) rfl ⟨HE2.out, _, _, _, ret_idx HE.out, fun h => ?_⟩
                      rw [← HE.out] at h
                      cases h
                  · rw [if_neg hx0] at HM
                    have HE : Hid _ := h00.out (by rw [HM.out]; simp; omega)
                    have q4 : ((xl : Int) == 0) = false := by rw [beq_eq_false_iff_ne]; omega
                    clear h67 h00 qn hL1
                    go_wp2
                    exact bodyPost_ret (idx_results (c := 0) HE1.out rfl rfl) rfl ⟨HE2.out, _, _, _, ret_idx HE.out, fun h => HE3.out⟩
end Go.Proofs.YtbpmahchinblhaaDoor
