/- Layer 6 (schema): the law's state while it writes over a schema and lets it grow. -/
import Derived.Test.YtbpmahchinblhaaDoorSApM
namespace Go.Proofs.YtbpmahchinblhaaDoor
open Go.RowKit
set_option linter.unusedVariables false

structure ApI (P : Nat → Prop) (w0 : World) (sb : Nat) (v : Value) (ts : List TV) (W : World) : Prop where
  s0 : W.cell? ⟨sb, 0, none⟩ = some v
  wd : Wd P W v ts
  kp : KpA P w0 W
  out : ¬ P sb
  low : sb < w0.heap.size
  new : ∀ k, w0.heap.size ≤ k → P k

theorem ApI.step {P Q : Nat → Prop} {w0 : World} {sb : Nat} {v : Value} {ts ts2 : List TV} {W W2 : World} (h : ApI P w0 sb v ts W) (hw : Wd P W2 v ts2) (hk : KpA Q W W2) (hq : ∀ k, Q k → P k) : ApI P w0 sb v ts2 W2 := by
  refine ⟨?_, hw, h.kp.trans (hk.weaken hq), h.out, h.low, h.new⟩
  rw [World.cell?_of_block (hk.block sb (Nat.lt_of_lt_of_le h.low h.kp.size) (fun e => h.out (hq _ e)))]
  exact h.s0
theorem ApI.next {P : Nat → Prop} {w0 : World} {sb : Nat} {v : Value} {ts : List TV} {W W2 : World} (h : ApI P w0 sb v ts W) (hb : Below W.heap.size W W2) : ApI P w0 sb v ts W2 :=
  h.step (h.wd.kp (Q := fun k => False) (KpA.ofBelow hb) (fun _ _ _ e => e)) (KpA.ofBelow (P := fun k => False) hb) (fun _ e => e.elim)

theorem ApI.len {P : Nat → Prop} {w0 : World} {sb : Nat} {ao : Option Addr} {T cap : Nat} {ts : List TV} {W : World} (h : ApI P w0 sb (.slice ao T cap) ts W) : ts.length = T := by
  obtain ⟨a, c, e, _⟩ := row_forms h.wd.row
  simp only [Value.slice.injEq] at e
  exact e.2.1.symm

theorem ApI.row {P : Nat → Prop} {w0 : World} {sb : Nat} {ao : Option Addr} {T cap : Nat} {ts : List TV} {W : World} (h : ApI P w0 sb (.slice ao T cap) ts W) : W.ownsRow 0 35 3 (.slice ao T cap) T (tcs ts) := by
  have hr := h.wd.row
  rw [h.len] at hr
  exact hr
/-- Table i's cells. -/
theorem ApI.tab {P : Nat → Prop} {w0 : World} {sb : Nat} {ao : Option Addr} {T cap : Nat} {ts : List TV} {W : World} (h : ApI P w0 sb (.slice ao T cap) ts W) {i : Nat} {t : TV} (hi : ts[i]? = some t) :
    ∃ g, ao = some ⟨g, 0, none⟩ ∧ W.cell? ⟨g, i * 3 + 1, none⟩ = some t.fv ∧ W.cell? ⟨g, i * 3 + 2, none⟩ = some t.xv ∧ ∀ k, W.frozen? ⟨g, k, none⟩ = false := by
  obtain ⟨a, c, e, hs⟩ := row_forms h.wd.row
  obtain ⟨hlt, _⟩ := List.getElem?_eq_some_iff.1 hi
  obtain ⟨g, hg⟩ := hs (by omega)
  simp only [Value.slice.injEq] at e
  obtain ⟨rfl, rfl, rfl⟩ := e
  subst hg
  have hr := h.wd.row
  refine ⟨g, rfl, ?_, ?_, fun k => World.ownsRow.frozenAt hr k⟩
  · rw [World.ownsRow.cellAt hr _ (by omega)]
    exact flat_at (fun t : TV => [Value.string t.n, t.fv, t.xv]) 3 (fun _ => rfl) ts i 1 t hi (by decide)
  · rw [World.ownsRow.cellAt hr _ (by omega)]
    exact flat_at (fun t : TV => [Value.string t.n, t.fv, t.xv]) 3 (fun _ => rfl) ts i 2 t hi (by decide)
/-- Index j's cells. -/
theorem ApI.idx {P : Nat → Prop} {w0 : World} {sb : Nat} {v : Value} {ts : List TV} {W : World} (h : ApI P w0 sb v ts W) {i j : Nat} {t : TV} {x : XV} (hi : ts[i]? = some t) (hj : t.xs[j]? = some x) :
    ∃ g, t.xa = some ⟨g, 0, none⟩ ∧ W.cell? ⟨g, j * 5, none⟩ = some (.string x.x.n) ∧ W.cell? ⟨g, j * 5 + 1, none⟩ = some x.v ∧ W.cell? ⟨g, j * 5 + 2, none⟩ = some (.bool x.x.u) ∧ W.cell? ⟨g, j * 5 + 3, none⟩ = some (.bool x.x.l) ∧ W.cell? ⟨g, j * 5 + 4, none⟩ = some (.bool x.x.s) ∧ ∀ k, W.frozen? ⟨g, k, none⟩ = false := by
  have hr := h.wd.xs i t hi
  obtain ⟨a, c, e, hs⟩ := row_forms hr
  obtain ⟨hlt, _⟩ := List.getElem?_eq_some_iff.1 hj
  obtain ⟨g, hg⟩ := hs (by omega)
  simp only [TV.xv, Value.slice.injEq] at e
  have hxa : t.xa = some ⟨g, 0, none⟩ := e.1.trans hg
  have hr' : W.ownsRow 0 38 5 (.slice (some ⟨g, 0, none⟩) t.xs.length t.xc) t.xs.length (xcs t.xs) := by rw [← hxa]; exact hr
  have at' : ∀ q u, q < 5 → [Value.string x.x.n, x.v, .bool x.x.u, .bool x.x.l, .bool x.x.s][q]? = some u → W.cell? ⟨g, j * 5 + q, none⟩ = some u := fun q u hq hu => by
    rw [World.ownsRow.cellAt hr' _ (by omega)]
    exact (flat_at (fun x : XV => [Value.string x.x.n, x.v, .bool x.x.u, .bool x.x.l, .bool x.x.s]) 5 (fun _ => rfl) t.xs j q x hj hq).trans hu
  exact ⟨g, hxa, at' 0 _ (by decide) rfl, at' 1 _ (by decide) rfl, at' 2 _ (by decide) rfl, at' 3 _ (by decide) rfl, at' 4 _ (by decide) rfl, fun k => World.ownsRow.frozenAt hr' k⟩
/-- The cell of one place. -/
theorem ApI.ovc {P : Nat → Prop} {w0 : World} {sb : Nat} {v : Value} {ts : List TV} {W : World} (h : ApI P w0 sb v ts W) {i j k : Nat} {t : TV} {x : XV} {p : Int} (hi : ts[i]? = some t) (hj : t.xs[j]? = some x) (hk : x.x.ov[k]? = some p) :
    ∃ g, x.va = some ⟨g, 0, none⟩ ∧ W.cell? ⟨g, k, none⟩ = some (.int .i64 p) ∧ ∀ k, W.frozen? ⟨g, k, none⟩ = false := by
  have hr := h.wd.ov i t j x hi hj
  obtain ⟨a, c, e, hs⟩ := row_forms hr
  obtain ⟨hlt, _⟩ := List.getElem?_eq_some_iff.1 hk
  obtain ⟨g, hg⟩ := hs (by omega)
  simp only [XV.v, Value.slice.injEq] at e
  have hxa : x.va = some ⟨g, 0, none⟩ := e.1.trans hg
  have hr' : W.ownsRow 0 3 1 (.slice (some ⟨g, 0, none⟩) x.x.ov.length x.vc) x.x.ov.length (ics x.x.ov) := by rw [← hxa]; exact hr
  refine ⟨g, hxa, ?_, fun k => World.ownsRow.frozenAt hr' k⟩
  rw [World.ownsRow.cellAt hr' _ (by omega)]
  simp [ics, hk]
/-- The cells of one field. -/
theorem ApI.fld {P : Nat → Prop} {w0 : World} {sb : Nat} {v : Value} {ts : List TV} {W : World} (h : ApI P w0 sb v ts W) {i j : Nat} {t : TV} {f : Fd} (hi : ts[i]? = some t) (hj : t.fs[j]? = some f) :
    ∃ g, t.fa = some ⟨g, 0, none⟩ ∧ W.cell? ⟨g, j * 2, none⟩ = some (.string f.n) ∧ W.cell? ⟨g, j * 2 + 1, none⟩ = some (.int .i64 f.k) ∧ ∀ k, W.frozen? ⟨g, k, none⟩ = false := by
  have hr := h.wd.fs i t hi
  obtain ⟨a, c, e, hs⟩ := row_forms hr
  obtain ⟨hlt, _⟩ := List.getElem?_eq_some_iff.1 hj
  obtain ⟨g, hg⟩ := hs (by omega)
  simp only [TV.fv, Value.slice.injEq] at e
  have hxa : t.fa = some ⟨g, 0, none⟩ := e.1.trans hg
  have hr' : W.ownsRow 0 40 2 (.slice (some ⟨g, 0, none⟩) t.fs.length t.fc) t.fs.length (fcs t.fs) := by rw [← hxa]; exact hr
  have at' : ∀ q u, q < 2 → [Value.string f.n, .int .i64 f.k][q]? = some u → W.cell? ⟨g, j * 2 + q, none⟩ = some u := fun q u hq hu => by
    rw [World.ownsRow.cellAt hr' _ (by omega)]
    exact (flat_at (fun f : Fd => [Value.string f.n, .int .i64 f.k]) 2 (fun _ => rfl) t.fs j q f hj hq).trans hu
  exact ⟨g, hxa, at' 0 _ (by decide) rfl, at' 1 _ (by decide) rfl, fun k => World.ownsRow.frozenAt hr' k⟩

theorem tcs_sameX {ts : List TV} {i : Nat} {t : TV} (h : ts[i]? = some t) (xs' : List XV) (hl : xs'.length = t.xs.length) : tcs (ts.set i { t with xs := xs', xa := t.xa, xc := t.xc }) = tcs ts := by
  rw [← tcs_setX h, hl]
  have hv : (tcs ts)[i * 3 + 2]? = some t.xv := flat_at (fun t : TV => [Value.string t.n, t.fv, t.xv]) 3 (fun _ => rfl) ts i 2 t h (by decide)
  obtain ⟨hlt, he⟩ := List.getElem?_eq_some_iff.1 hv
  rw [show Value.slice t.xa t.xs.length t.xc = (tcs ts)[i * 3 + 2] from he.symm]
  exact List.set_getElem_self _
theorem tcs_sameF {ts : List TV} {i : Nat} {t : TV} (h : ts[i]? = some t) (fs' : List Fd) (hl : fs'.length = t.fs.length) : tcs (ts.set i { t with fs := fs', fa := t.fa, fc := t.fc }) = tcs ts := by
  rw [← tcs_setF h, hl]
  have hv : (tcs ts)[i * 3 + 1]? = some t.fv := flat_at (fun t : TV => [Value.string t.n, t.fv, t.xv]) 3 (fun _ => rfl) ts i 1 t h (by decide)
  obtain ⟨hlt, he⟩ := List.getElem?_eq_some_iff.1 hv
  rw [show Value.slice t.fa t.fs.length t.fc = (tcs ts)[i * 3 + 1] from he.symm]
  exact List.set_getElem_self _
theorem fcs_set {fs : List Fd} {j : Nat} (hj : j < fs.length) (n : ByteArray) (k : Int) : ((fcs fs).set (j * 2) (.string n)).set (j * 2 + 1) (.int .i64 k) = fcs (fs.set j ⟨n, k⟩) := by
  induction fs generalizing j with
  | nil => simp at hj
  | cons u l ih =>
    cases j with
    | zero => simp [fcs]
    | succ j =>
      have := ih (j := j) (by simpa using hj)
      simp only [fcs, List.flatMap_cons, List.set_cons_succ] at this ⊢
      rw [← this, List.set_append_right _ _ (by simp; omega), List.set_append_right _ _ (by simp; omega)]
      congr 1
      simp only [List.length_cons, List.length_nil]
      rw [show (j + 1) * 2 - (0 + 1 + 1) = j * 2 by omega, show (j + 1) * 2 + 1 - (0 + 1 + 1) = j * 2 + 1 by omega]

abbrev TV.atO (t : TV) (j : Nat) (x : XV) (ov : List Int) (a : Option Addr) (c : Nat) : TV := { t with xs := t.xs.set j ⟨{ x.x with ov := ov }, a, c⟩ }

theorem ApI.setO {P : Nat → Prop} {w0 : World} {sb : Nat} {v : Value} {ts : List TV} {W : World} (h : ApI P w0 sb v ts W) {i j : Nat} {t : TV} {x : XV} (hi : ts[i]? = some t) (hj : t.xs[j]? = some x) {g : Nat} (hg : x.va = some ⟨g, 0, none⟩) (k : Nat) (p : Int) :
    ApI P w0 sb v (ts.set i (t.atO j x (x.x.ov.set k p) x.va x.vc)) (W.setCell ⟨g, k, none⟩ (.int .i64 p)) := by
  have hr := h.wd.ov i t j x hi hj
  have hb : x.v.ownBlock = some g := by simp [XV.v, hg, Value.ownBlock]
  refine h.step (Q := fun k => x.v.ownBlock = some k ∨ t.xv.ownBlock = some k) (h.wd.putO hi hj ?_ ?_ ?_ ?_) ((KpA.set W g k _).weaken fun q e => .inl (by rw [e]; exact hb)) ?_
  · rw [xcs_sameO hj _ (by simp)]
    exact row_set (h.wd.xs i t hi) (fun e => rows_ne (h.wd.xs i t hi) hr (by decide) g hb e) _
  · have hr' : W.ownsRow 0 3 1 (.slice (some ⟨g, 0, none⟩) x.x.ov.length x.vc) x.x.ov.length (ics x.x.ov) := by rw [← hg]; exact hr
    have := (World.ownsRow.stored hr' k (.int .i64 p)).1
    rw [← hg] at this
    rw [List.length_set]
    have e : ics (x.x.ov.set k p) = (ics x.x.ov).set k (.int .i64 p) := by simp [ics, List.map_set]
    rw [e]
    exact this
  · exact (KpA.set W g k _).weaken fun q e => .inl (by rw [e]; exact hb)
  · intro q hq
    left
    rw [List.length_set] at hq
    exact hq
  · rintro q (e | e)
    · exact h.wd.po i t j x hi hj q e
    · exact h.wd.px i t hi q e

theorem ApI.setN {P : Nat → Prop} {w0 : World} {sb : Nat} {v : Value} {ts : List TV} {W : World} (h : ApI P w0 sb v ts W) {i j : Nat} {t : TV} {x : XV} (hi : ts[i]? = some t) (hj : t.xs[j]? = some x) {g : Nat} (hg : t.xa = some ⟨g, 0, none⟩) (n : ByteArray) :
    ApI P w0 sb v (ts.set i { t with xs := t.xs.set j { x with x := { x.x with n := n } } }) (W.setCell ⟨g, j * 5, none⟩ (.string n)) := by
  have hr := h.wd.xs i t hi
  have hb : t.xv.ownBlock = some g := by simp [TV.xv, hg, Value.ownBlock]
  have hl : (t.xs.set j { x with x := { x.x with n := n } }).length = t.xs.length := by simp
  refine h.step (Q := fun k => t.xv.ownBlock = some k ∨ v.ownBlock = some k) (h.wd.putX (a' := t.xa) (c' := t.xc) hi ?_ ?_ ?_ ?_ ?_) ((KpA.set W g _ _).weaken fun q e => .inl (by rw [e]; exact hb)) ?_
  · rw [tcs_sameX hi _ hl]
    exact row_set h.wd.row (fun e => rows_ne h.wd.row hr (by decide) g hb e) _
  · have hr' : W.ownsRow 0 38 5 (.slice (some ⟨g, 0, none⟩) t.xs.length t.xc) t.xs.length (xcs t.xs) := by rw [← hg]; exact hr
    have := (World.ownsRow.stored hr' (j * 5) (.string n)).1
    rw [← hg, xcs_setN hj] at this
    rw [hl]
    exact this
  · exact (KpA.set W g _ _).weaken fun q e => .inl (by rw [e]; exact hb)
  · intro q hq
    left
    rw [hl] at hq
    exact hq
  · intro j' x' hx'
    left
    rcases set_at hx' with ⟨rfl, rfl, _⟩ | ⟨_, hx'⟩
    · exact ⟨x, hj, rfl, rfl⟩
    · exact ⟨x', hx', rfl, rfl⟩
  · rintro q (e | e)
    · exact h.wd.px i t hi q e
    · exact h.wd.pr q e

theorem ApI.setF {P : Nat → Prop} {w0 : World} {sb : Nat} {v : Value} {ts : List TV} {W : World} (h : ApI P w0 sb v ts W) {i j : Nat} {t : TV} (hi : ts[i]? = some t) (hj : j < t.fs.length) {g : Nat} (hg : t.fa = some ⟨g, 0, none⟩) (n : ByteArray) (p : Int) :
    ApI P w0 sb v (ts.set i { t with fs := t.fs.set j ⟨n, p⟩ }) ((W.setCell ⟨g, j * 2, none⟩ (.string n)).setCell ⟨g, j * 2 + 1, none⟩ (.int .i64 p)) := by
  have hr := h.wd.fs i t hi
  have hb : t.fv.ownBlock = some g := by simp [TV.fv, hg, Value.ownBlock]
  have hl : (t.fs.set j (⟨n, p⟩ : Fd)).length = t.fs.length := by simp
  have hk : KpA (fun k => t.fv.ownBlock = some k ∨ v.ownBlock = some k) W ((W.setCell ⟨g, j * 2, none⟩ (.string n)).setCell ⟨g, j * 2 + 1, none⟩ (.int .i64 p)) :=
    ((KpA.set W g _ _).weaken fun q e => .inl (by rw [e]; exact hb)).trans ((KpA.set _ g _ _).weaken fun q e => .inl (by rw [e]; exact hb))
  refine h.step (h.wd.putF (a' := t.fa) (c' := t.fc) hi ?_ ?_ hk ?_) hk ?_
  · rw [tcs_sameF hi _ hl]
    have h1 := row_set h.wd.row (a := ⟨g, j * 2, none⟩) (fun e => rows_ne h.wd.row hr (by decide) g hb e) (.string n)
    exact row_set h1 (a := ⟨g, j * 2 + 1, none⟩) (fun e => rows_ne h.wd.row hr (by decide) g hb e) (.int .i64 p)
  · have hr' : W.ownsRow 0 40 2 (.slice (some ⟨g, 0, none⟩) t.fs.length t.fc) t.fs.length (fcs t.fs) := by rw [← hg]; exact hr
    have h1 := (World.ownsRow.stored hr' (j * 2) (.string n)).1
    have h2 := (World.ownsRow.stored h1 (j * 2 + 1) (.int .i64 p)).1
    rw [← hg, fcs_set hj] at h2
    rw [hl]
    exact h2
  · intro q hq
    left
    rw [hl] at hq
    exact hq
  · rintro q (e | e)
    · exact h.wd.pf i t hi q e
    · exact h.wd.pr q e

theorem ApI.growO {P : Nat → Prop} {w0 : World} {sb : Nat} {v : Value} {ts : List TV} {W w4 : World} (h : ApI P w0 sb v ts W) {i j : Nat} {t : TV} {x : XV} (hi : ts[i]? = some t) (hj : t.xs[j]? = some x) {g : Nat} (hg : t.xa = some ⟨g, 0, none⟩) {a4 : Option Addr} {c4 : Nat} {p : Int}
    (ho : w4.ownsRow 0 3 1 (.slice a4 (x.x.ov.length + 1) c4) (x.x.ov.length + 1) (ics x.x.ov ++ [.int .i64 p])) (hgr : Grew W w4 x.v (.slice a4 (x.x.ov.length + 1) c4)) :
    ApI P w0 sb v (ts.set i (t.atO j x (x.x.ov ++ [p]) a4 c4)) (w4.setCell ⟨g, j * 5 + 1, none⟩ (.slice a4 (x.x.ov.length + 1) c4)) := by
  have hr := h.wd.ov i t j x hi hj
  have hrx := h.wd.xs i t hi
  have hb : t.xv.ownBlock = some g := by simp [TV.xv, hg, Value.ownBlock]
  have hl : (x.x.ov ++ [p]).length = x.x.ov.length + 1 := by simp
  have hk : KpA (fun k => x.v.ownBlock = some k ∨ t.xv.ownBlock = some k) W (w4.setCell ⟨g, j * 5 + 1, none⟩ (.slice a4 (x.x.ov.length + 1) c4)) :=
    ((KpA.ofGrew hgr).weaken fun q e => .inl e).trans ((KpA.set w4 g _ _).weaken fun q e => .inr (by rw [e]; exact hb))
  have hrx4 := row_grew hrx hgr (rows_ne hrx hr (by decide))
  refine h.step (h.wd.putO hi hj ?_ ?_ hk ?_) hk ?_
  · have hr' : w4.ownsRow 0 38 5 (.slice (some ⟨g, 0, none⟩) t.xs.length t.xc) t.xs.length (xcs t.xs) := by rw [← hg]; exact hrx4
    have := (World.ownsRow.stored hr' (j * 5 + 1) (.slice a4 (x.x.ov.length + 1) c4)).1
    rw [← hg, ← hl, xcs_setO hj, hl] at this
    exact this
  · rw [hl]
    have e : ics (x.x.ov ++ [p]) = ics x.x.ov ++ [.int .i64 p] := by simp [ics]
    rw [e]
    exact row_set ho (fun e => rows_ne ho hrx4 (by decide) g hb e) _
  · intro q hq
    rw [hl] at hq
    rcases hgr.place q hq with e | e
    · exact .inl e
    · exact .inr ⟨e, h.new q (Nat.le_trans h.kp.size e)⟩
  · rintro q (e | e)
    · exact h.wd.po i t j x hi hj q e
    · exact h.wd.px i t hi q e

theorem ApI.growF {P : Nat → Prop} {w0 : World} {sb : Nat} {g T cap : Nat} {ts : List TV} {W w4 : World} (h : ApI P w0 sb (.slice (some ⟨g, 0, none⟩) T cap) ts W) {i : Nat} {t : TV} (hi : ts[i]? = some t) {a4 : Option Addr} {c4 : Nat} {n : ByteArray} {p : Int}
    (ho : w4.ownsRow 0 40 2 (.slice a4 (t.fs.length + 1) c4) (t.fs.length + 1) (fcs t.fs ++ [.string n, .int .i64 p])) (hgr : Grew W w4 t.fv (.slice a4 (t.fs.length + 1) c4)) :
    ApI P w0 sb (.slice (some ⟨g, 0, none⟩) T cap) (ts.set i { t with fs := t.fs ++ [⟨n, p⟩], fa := a4, fc := c4 }) (w4.setCell ⟨g, i * 3 + 1, none⟩ (.slice a4 (t.fs.length + 1) c4)) := by
  have hr := h.wd.fs i t hi
  have hT := h.len
  subst hT
  have hl : (t.fs ++ [(⟨n, p⟩ : Fd)]).length = t.fs.length + 1 := by simp
  have hk : KpA (fun k => t.fv.ownBlock = some k ∨ (Value.slice (some ⟨g, 0, none⟩) ts.length cap).ownBlock = some k) W (w4.setCell ⟨g, i * 3 + 1, none⟩ (.slice a4 (t.fs.length + 1) c4)) :=
    ((KpA.ofGrew hgr).weaken fun q e => .inl e).trans ((KpA.set w4 g _ _).weaken fun q e => .inr (by rw [e]; rfl))
  have hr4 := row_grew h.wd.row hgr (rows_ne h.wd.row hr (by decide))
  refine h.step (h.wd.putF hi ?_ ?_ hk ?_) hk ?_
  · have := (World.ownsRow.stored hr4 (i * 3 + 1) (.slice a4 (t.fs.length + 1) c4)).1
    rw [← hl, tcs_setF hi, hl] at this
    exact this
  · rw [hl, fcs_snoc]
    exact row_set ho (fun e => rows_ne ho hr4 (by decide) g rfl e) _
  · intro q hq
    rw [hl] at hq
    rcases hgr.place q hq with e | e
    · exact .inl e
    · exact .inr ⟨e, h.new q (Nat.le_trans h.kp.size e)⟩
  · rintro q (e | e)
    · exact h.wd.pf i t hi q e
    · exact h.wd.pr q e

theorem ApI.growX {P : Nat → Prop} {w0 : World} {sb : Nat} {g T cap : Nat} {ts : List TV} {W w4 : World} (h : ApI P w0 sb (.slice (some ⟨g, 0, none⟩) T cap) ts W) {i : Nat} {t : TV} (hi : ts[i]? = some t) {a4 : Option Addr} {c4 : Nat} {n : ByteArray}
    (ho : w4.ownsRow 0 38 5 (.slice a4 (t.xs.length + 1) c4) (t.xs.length + 1) (xcs t.xs ++ [.string n, .slice none 0 0, .bool false, .bool false, .bool false])) (hgr : Grew W w4 t.xv (.slice a4 (t.xs.length + 1) c4)) :
    ApI P w0 sb (.slice (some ⟨g, 0, none⟩) T cap) (ts.set i { t with xs := t.xs ++ [⟨⟨n, [], false, false, false⟩, none, 0⟩], xa := a4, xc := c4 }) (w4.setCell ⟨g, i * 3 + 2, none⟩ (.slice a4 (t.xs.length + 1) c4)) := by
  have hr := h.wd.xs i t hi
  have hT := h.len
  subst hT
  have hl : (t.xs ++ [(⟨⟨n, [], false, false, false⟩, none, 0⟩ : XV)]).length = t.xs.length + 1 := by simp
  have hk : KpA (fun k => t.xv.ownBlock = some k ∨ (Value.slice (some ⟨g, 0, none⟩) ts.length cap).ownBlock = some k) W (w4.setCell ⟨g, i * 3 + 2, none⟩ (.slice a4 (t.xs.length + 1) c4)) :=
    ((KpA.ofGrew hgr).weaken fun q e => .inl e).trans ((KpA.set w4 g _ _).weaken fun q e => .inr (by rw [e]; rfl))
  have hr4 := row_grew h.wd.row hgr (rows_ne h.wd.row hr (by decide))
  refine h.step (h.wd.putX hi ?_ ?_ hk ?_ ?_) hk ?_
  · have := (World.ownsRow.stored hr4 (i * 3 + 2) (.slice a4 (t.xs.length + 1) c4)).1
    rw [← hl, tcs_setX hi, hl] at this
    exact this
  · rw [hl, xcs_snoc]
    exact row_set ho (fun e => rows_ne ho hr4 (by decide) g rfl e) _
  · intro q hq
    rw [hl] at hq
    rcases hgr.place q hq with e | e
    · exact .inl e
    · exact .inr ⟨e, h.new q (Nat.le_trans h.kp.size e)⟩
  · intro j x' hx'
    rcases Nat.lt_trichotomy j t.xs.length with hlt | he | hgt
    · rw [List.getElem?_append_left hlt] at hx'
      exact .inl ⟨x', hx', rfl, rfl⟩
    · subst he
      simp at hx'
      subst hx'
      exact .inr ⟨rfl, rfl⟩
    · rw [List.getElem?_eq_none (by simp; omega)] at hx'
      cases hx'
  · rintro q (e | e)
    · exact h.wd.px i t hi q e
    · exact h.wd.pr q e
end Go.Proofs.YtbpmahchinblhaaDoor
