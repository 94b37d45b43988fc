/- Layer 6 (schema): memory, words, lines: what names no type of a schema either. -/
import Derived.Test.YtelhgjepjieocaaDoorSBase
import Derived.Test.YtelhgjepjieocaaDoorChecked
import Derived.Below
import Derived.Deep.QuietTactic
import Derived.BigQuiet
import Derived.MapKept
import Derived.Deep.DeepCutAuto
import Derived.Deep.CutRange
import Derived.Deep.RegionHeld3
import Derived.Deep.RegionHeldLaw
import Derived.Deep.AppendLies
import Derived.Deep.RegionLaw
import Derived.Defers
import Derived.RegionTactic
import Derived.BigRegion
import Derived.Lib.IndexLaws
import Derived.Lib.IndexBytes
namespace Go.Proofs.YtelhgjepjieocaaDoor
open Go.RowKit
set_option linter.unusedVariables false
theorem nm_empty {s : ByteArray} (h : s.toList = []) : false = nameB s := by
  rw [ByteArray.toList_eq] at h
  simp [nameB, nameL, h]
theorem nm_long {s : ByteArray} (h : ¬ s.size ≤ 32) : false = nameB s := by
  have : decide (s.data.toList.length ≤ 32) = false := by simpa using h
  unfold nameB nameL
  rw [this]
  simp
theorem nm_digit {s : ByteArray} (h0 : 0 < s.size) (h : isDig s[0] = true) : false = nameB s := by
  have : s.data.toList.getD 0 0 = s[0] := by
    rw [List.getD_eq_getElem?_getD, List.getElem?_eq_getElem (by simpa using h0)]; rfl
  unfold nameB nameL
  rw [this, h]
  simp
def nmTo (s : ByteArray) (k : Nat) : Prop := ∀ i (h : i < s.size), i < k → (isLet s[i] || isDig s[i]) = true
theorem nm_bad {s : ByteArray} {k : Nat} (h : k < s.size) (hv : (isLet s[k] || isDig s[k]) = false) : false = nameB s := by
  have : (s.data.toList.all fun c => isLet c || isDig c) = false := by
    rw [List.all_eq_false]
    exact ⟨s[k], List.getElem_mem (by simpa using h), by rw [hv]; simp⟩
  simp [nameB, nameL, this]
theorem nm_good {s : ByteArray} (h0 : 0 < s.size) (hl : s.size ≤ 32) (hd : isDig s[0] = false) (h : nmTo s s.size) : true = nameB s := by
  have h1 : s.data.toList.getD 0 0 = s[0] := by
    rw [List.getD_eq_getElem?_getD, List.getElem?_eq_getElem (by simpa using h0)]; rfl
  have h2 : (s.data.toList.all fun c => isLet c || isDig c) = true := by
    rw [List.all_eq_true]
    intro c hc
    obtain ⟨i, hi, rfl⟩ := List.getElem_of_mem hc
    exact h i (by simpa using hi) (by simpa using hi)
  have h3 : s.data.toList.isEmpty = false := by
    cases he : s.data.toList.isEmpty with
    | false => rfl
    | true =>
      have hl : s.data.toList.length = 0 := by rw [List.isEmpty_iff.1 he]; rfl
      have : s.data.toList.length = s.size := by simp
      omega
  unfold nameB nameL
  rw [h1, h2, h3, hd]
  simpa using hl
theorem size_pos_of {s : ByteArray} (h : ¬ s.toList = []) : 0 < s.size := by
  rw [ByteArray.toList_eq] at h
  rcases Nat.eq_zero_or_pos s.size with h0 | h0
  · exact absurd (List.length_eq_zero_iff.1 (by simpa using h0)) h
  · exact h0
theorem lt_blk {w : World} {b : Nat} {o : Obj} (h : w.heap[b]? = some o) : b < w.heap.size := by
  rcases Nat.lt_or_ge b w.heap.size with h' | h'
  · exact h'
  · rw [Array.getElem?_eq_none h'] at h; cases h
theorem cell_blk {w : World} {b i : Nat} {cs : Array Value} {t : TypeId} (h : w.heap[b]? = some (.cells cs t)) : w.cell? ⟨b, i, none⟩ = cs[i]? := by simp [World.cell?, h]
theorem frozen_blk {w : World} {b i : Nat} {cs : Array Value} {t : TypeId} (h : w.heap[b]? = some (.cells cs t)) : w.frozen? ⟨b, i, none⟩ = false := by simp [World.frozen?, h]
theorem set_blk {w : World} {b i : Nat} {cs : Array Value} {t : TypeId} (h : w.heap[b]? = some (.cells cs t)) (v : Value) : (w.setCell ⟨b, i, none⟩ v).heap[b]? = some (.cells (cs.setIfInBounds i v) t) := heap_setCell_same w b i cs t v h
theorem new_blk (w : World) (o : Obj) : (w.alloc o).heap[w.heap.size]? = some o := (MapKept.heap_alloc w o).1
theorem old_blk {w : World} {b : Nat} {o : Obj} (h : w.heap[b]? = some o) (o' : Obj) : (w.alloc o').heap[b]? = some o := by rw [Below.heap_alloc _ _ _ (lt_blk h)]; exact h
/-- A slice of the call's own: its block has the elements' type. -/
theorem row_typed {w : World} {B : Nat} {e : TypeId} {size : Nat} {v : Value} {n : Nat} {l : List Value} (h : w.ownsRow B e size v n l) : ∀ k, v.ownBlock = some k → ∃ cs, w.heap[k]? = some (.cells cs e) := by
  intro k hk
  rcases h.2 with ⟨rfl, h0⟩ | ⟨g, cap, cur, rfl, hb, hg, _⟩
  · simp [Value.ownBlock] at hk
  · simp [Value.ownBlock] at hk
    subst hk
    exact ⟨cur, hg⟩
theorem row_forms {w : World} {B : Nat} {e : TypeId} {size : Nat} {v : Value} {n : Nat} {l : List Value} (h : w.ownsRow B e size v n l) : ∃ ao cap, v = .slice ao n cap ∧ (0 < n → ∃ g, ao = some ⟨g, 0, none⟩) := by
  rcases h.2 with ⟨rfl, h0⟩ | ⟨g, cap, cur, rfl, _⟩
  · exact ⟨none, 0, by rw [h0], by omega⟩
  · exact ⟨_, _, rfl, fun _ => ⟨g, rfl⟩⟩
/-- No block of another type is the slice's. -/
theorem row_ne {w : World} {B : Nat} {e t : TypeId} {size : Nat} {v : Value} {n : Nat} {l : List Value} (h : w.ownsRow B e size v n l) {b : Nat} {cs : Array Value} (hb : w.heap[b]? = some (.cells cs t)) (hne : e ≠ t) : v.ownBlock ≠ some b := by
  intro he
  obtain ⟨cs', hk⟩ := row_typed h _ he
  have := hk.symm.trans hb
  simp at this
  exact hne this.2
theorem rows_ne {w : World} {B B' : Nat} {e e' : TypeId} {size size' : Nat} {v v' : Value} {n n' : Nat} {l l' : List Value} (h : w.ownsRow B e size v n l) (h' : w.ownsRow B' e' size' v' n' l') (hne : e ≠ e') : ∀ k, v'.ownBlock = some k → v.ownBlock ≠ some k := by
  intro k hk
  obtain ⟨cs, hb⟩ := row_typed h' k hk
  exact row_ne h hb hne
theorem row_below {w w' : World} {B : Nat} {e : TypeId} {size : Nat} {v : Value} {n : Nat} {l : List Value} (h : w.ownsRow B e size v n l) (hb : Below w.heap.size w w') : w'.ownsRow B e size v n l :=
  World.ownsRow.kept (row := none) h ⟨hb.os, hb.tape, hb.output, hb.size, fun k hk _ => hb.block k hk⟩ (by cases v.ownBlock <;> simp)
/-- A slice stays as it is while another one grows. -/
theorem row_grew {w w' : World} {B : Nat} {e : TypeId} {size : Nat} {v u u' : Value} {n : Nat} {l : List Value} (h : w.ownsRow B e size v n l) (hg : Grew w w' u u') (hne : ∀ k, u.ownBlock = some k → v.ownBlock ≠ some k) : w'.ownsRow B e size v n l := by
  refine World.ownsRow.kept h hg.grown ?_
  cases hv : v.ownBlock with
  | none => exact .inl rfl
  | some k => exact .inr (fun e => hne k e.symm hv)
theorem row_set {w : World} {B : Nat} {e : TypeId} {size : Nat} {v : Value} {n : Nat} {l : List Value} (h : w.ownsRow B e size v n l) {a : Addr} (hne : v.ownBlock ≠ some a.block) (u : Value) : (w.setCell a u).ownsRow B e size v n l := ownsRow_setCell_other h hne u
/-! ### Tables, fields, indexes in memory -/
/-- An index with the slice that holds its places; a table with its two slices. -/
structure XV where
  x : Ix
  va : Option Addr
  vc : Nat
structure TV where
  n : ByteArray
  fs : List Fd
  fa : Option Addr
  fc : Nat
  xs : List XV
  xa : Option Addr
  xc : Nat
abbrev XV.v (x : XV) : Value := .slice x.va x.x.ov.length x.vc
abbrev TV.fv (t : TV) : Value := .slice t.fa t.fs.length t.fc
abbrev TV.xv (t : TV) : Value := .slice t.xa t.xs.length t.xc
def TV.tb (t : TV) : Tb := ⟨t.n, t.fs, t.xs.map (·.x)⟩
def fcs (fs : List Fd) : List Value := fs.flatMap fun f => [.string f.n, .int .i64 f.k]
def xcs (xs : List XV) : List Value := xs.flatMap fun x => [.string x.x.n, x.v, .bool x.x.u, .bool x.x.l, .bool x.x.s]
def tcs (ts : List TV) : List Value := ts.flatMap fun t => [.string t.n, t.fv, t.xv]
def ics (l : List Int) : List Value := l.map (.int .i64)
theorem flat_length {α : Type} (f : α → List Value) (s : Nat) (hf : ∀ a, (f a).length = s) : ∀ l : List α, (l.flatMap f).length = l.length * s
  | [] => by simp
  | a :: l => by rw [List.flatMap_cons, List.length_append, flat_length f s hf l, hf, List.length_cons, Nat.succ_mul]; omega
theorem flat_at {α : Type} (f : α → List Value) (s : Nat) (hf : ∀ a, (f a).length = s) : ∀ (l : List α) (i j : Nat) (a : α), l[i]? = some a → j < s → (l.flatMap f)[i * s + j]? = (f a)[j]?
  | [], i, j, a, h, _ => by simp at h
  | b :: l, 0, j, a, h, hj => by
    simp at h; subst h
    rw [List.flatMap_cons, Nat.zero_mul, Nat.zero_add, List.getElem?_append_left (by rw [hf]; exact hj)]
  | b :: l, i + 1, j, a, h, hj => by
    rw [List.flatMap_cons, List.getElem?_append_right (by rw [hf, Nat.succ_mul]; omega), hf, show (i + 1) * s + j - s = i * s + j by rw [Nat.succ_mul]; omega]
    exact flat_at f s hf l i j a (by simpa using h) hj
theorem fcs_length (l : List Fd) : (fcs l).length = l.length * 2 := flat_length _ 2 (fun _ => rfl) l
theorem xcs_length (l : List XV) : (xcs l).length = l.length * 5 := flat_length _ 5 (fun _ => rfl) l
theorem tcs_length (l : List TV) : (tcs l).length = l.length * 3 := flat_length _ 3 (fun _ => rfl) l
theorem ics_length (l : List Int) : (ics l).length = l.length := by simp [ics]
/-- Slices in blocks of their own. -/
def ApartV (l : List Value) : Prop := l.Pairwise fun a b => ∀ k, a.ownBlock = some k → b.ownBlock ≠ some k
theorem ApartV.snoc {l : List Value} {v : Value} (h : ApartV l) (hv : ∀ u ∈ l, ∀ k, u.ownBlock = some k → v.ownBlock ≠ some k) : ApartV (l ++ [v]) := by
  unfold ApartV
  rw [List.pairwise_append]
  refine ⟨h, by simp, fun a ha b hb => ?_⟩
  simp at hb; subst hb
  exact hv a ha
theorem ApartV.last {l : List Value} {v v' : Value} {N : Nat} (h : ApartV (l ++ [v])) (hp : ∀ k, v'.ownBlock = some k → v.ownBlock = some k ∨ N ≤ k) (hN : ∀ u ∈ l, ∀ k, u.ownBlock = some k → k < N) : ApartV (l ++ [v']) := by
  unfold ApartV at h ⊢
  rw [List.pairwise_append] at h ⊢
  refine ⟨h.1, by simp, fun a ha b hb k hk e => ?_⟩
  simp at hb; subst hb
  rcases hp k e with e' | e'
  · exact h.2.2 a ha v (by simp) k hk e'
  · have := hN a ha k hk; omega
theorem ApartV.ne {l : List Value} {v : Value} (h : ApartV (l ++ [v])) : ∀ u ∈ l, ∀ k, v.ownBlock = some k → u.ownBlock ≠ some k := by
  intro u hu k hk e
  unfold ApartV at h
  rw [List.pairwise_append] at h
  exact h.2.2 u hu v (by simp) k e hk
/-- The places of an index are of its table; names are names; nothing is too much. -/
structure XOk (t : TV) (x : XV) : Prop where
  size : x.x.n.size ≤ 32
  most : x.x.ov.length ≤ 4
  one : 0 < x.x.ov.length
  place : ∀ p ∈ x.x.ov, 0 ≤ p ∧ p < t.fs.length
structure TOk (t : TV) : Prop where
  size : t.n.size ≤ 32
  fsize : ∀ f ∈ t.fs, f.n.size ≤ 32 ∧ 1 ≤ f.k ∧ f.k ≤ 3
  fmost : t.fs.length ≤ 16
  xmost : t.xs.length ≤ 8
  xok : ∀ x ∈ t.xs, XOk t x
/-- Below B nothing was written; and no block of texts. -/
structure Fr (B : Nat) (w w' : World) : Prop where
  below : Below B w w'
  strs : ∀ (k : Nat) (cs : Array Value), w.heap[k]? = some (.cells cs 9) → w'.heap[k]? = some (.cells cs 9)
theorem Fr.refl (B : Nat) (w : World) : Fr B w w := ⟨Below.refl _ _, fun _ _ h => h⟩
theorem Fr.trans {B : Nat} {a b c : World} (h : Fr B a b) (k : Fr B b c) : Fr B a c := ⟨h.below.trans k.below, fun i cs hi => k.strs i cs (h.strs i cs hi)⟩
theorem Fr.ofBelow {B : Nat} {a b : World} (h : Below a.heap.size a b) (hB : B ≤ a.heap.size) : Fr B a b := ⟨h.mono hB, fun k cs hk => (h.block k (lt_blk hk)).trans hk⟩
theorem Fr.set {B : Nat} {w : World} {b i : Nat} {cs : Array Value} {t : TypeId} (hb : w.heap[b]? = some (.cells cs t)) (hB : B ≤ b) (ht : 9 ≠ t) (u : Value) : Fr B w (w.setCell ⟨b, i, none⟩ u) := by
  refine ⟨(Below.refl _ _).setCell hB u, fun k ds hk => ?_⟩
  rw [heap_setCell_other _ _ _ _ (fun e => by
    have e' : k = b := e
    subst e'
    have := hb.symm.trans hk
    simp at this
    exact ht this.2.symm)]
  exact hk
theorem Fr.grew {B B' : Nat} {w w' : World} {e : TypeId} {size : Nat} {v v' : Value} {n : Nat} {l : List Value} (h : w.ownsRow B' e size v n l) (hB' : B ≤ B') (hB : B ≤ w.heap.size) (hg : Grew w w' v v') (ht : e ≠ 9) : Fr B w w' := by
  refine ⟨hg.toBelow hB fun k hk => Nat.le_trans hB' (World.ownsRow.lt h k hk).1, fun k cs hk => ?_⟩
  exact (hg.grown.block k (lt_blk hk) (fun e => row_ne h hk ht e.symm)).trans hk
theorem Fr.drew {B : Nat} {a b : World} (h : Fr B a b) : Fr B a b.drew := ⟨⟨h.below.os, h.below.tape, h.below.output, h.below.size, h.below.block⟩, h.strs⟩
theorem Fr.alloc {B : Nat} {a b : World} (h : Fr B a b) (hB : B ≤ b.heap.size) (o : Obj) : Fr B a (b.alloc o) := h.trans (Fr.ofBelow ((Below.refl _ _).alloc (Nat.le_refl _) o) hB)
/-- Texts lie one behind the other in a block of texts. -/
def StrsAt (w : World) (b : Nat) (ws : List ByteArray) : Prop := w.heap[b]? = some (.cells (ws.map Value.string).toArray 9)
theorem StrsAt.fr {B : Nat} {w w' : World} {b : Nat} {ws : List ByteArray} (h : StrsAt w b ws) (hf : Fr B w w') : StrsAt w' b ws := hf.strs _ _ h
theorem StrsAt.below {w w' : World} {b : Nat} {ws : List ByteArray} (h : StrsAt w b ws) (hb : Below w.heap.size w w') : StrsAt w' b ws := (hb.block _ (lt_blk h)).trans h
theorem StrsAt.cell {w : World} {b : Nat} {ws : List ByteArray} (h : StrsAt w b ws) (i : Nat) (hi : i < ws.length) : w.cell? ⟨b, i, none⟩ = some (.string ws[i]) := by
  rw [cell_blk h]; simp [hi]
/-- Cells one behind the other, from an address. -/
def CellsAt (w : World) (ao : Option Addr) (cs : List Value) : Prop := cs ≠ [] → ∃ b off, ao = some ⟨b, off, none⟩ ∧ ∀ j u, cs[j]? = some u → w.cell? ⟨b, off + j, none⟩ = some u
theorem CellsAt.below {w w' : World} {ao : Option Addr} {cs : List Value} (h : CellsAt w ao cs) (hb : Below w.heap.size w w') : CellsAt w' ao cs := by
  intro hne
  obtain ⟨b, off, ha, hc⟩ := h hne
  refine ⟨b, off, ha, fun j u hj => ?_⟩
  have := hc j u hj
  rw [hb.cell (by exact World.block_lt_of_cell? w _ this)]
  exact this
theorem row_cells {w : World} {B : Nat} {e : TypeId} {size : Nat} {ao : Option Addr} {n cap : Nat} {l : List Value} (h : w.ownsRow B e size (.slice ao n cap) n l) : CellsAt w ao l := by
  intro hne
  rcases h.2 with ⟨he, h0⟩ | ⟨g, cap', cur, he, _⟩
  · have := h.1; rw [h0] at this; simp at this; exact absurd this hne
  · simp only [Value.slice.injEq] at he
    obtain ⟨rfl, _, rfl⟩ := he
    refine ⟨g, 0, rfl, fun j u hj => ?_⟩
    have hl : j < n * size := by rw [← h.1]; exact (List.getElem?_eq_some_iff.1 hj).1
    rw [Nat.zero_add, World.ownsRow.cellAt h j hl]
    exact hj
theorem StrsAt.cells {w : World} {b : Nat} {ws : List ByteArray} (h : StrsAt w b ws) : CellsAt w (some ⟨b, 0, none⟩) (ws.map Value.string) := by
  intro hne
  refine ⟨b, 0, rfl, fun j u hj => ?_⟩
  rw [Nat.zero_add, cell_blk h]
  simpa using hj
theorem flat_ne {α : Type} (f : α → List Value) (s : Nat) (hf : ∀ a, (f a).length = s) (hs : 0 < s) {l : List α} {k : Nat} (h : k < l.length) : l.flatMap f ≠ [] := by
  intro e
  have := flat_length f s hf l
  rw [e] at this
  have h2 : 0 < l.length * s := Nat.mul_pos (by omega) hs
  simp at this
  omega
theorem CellsAt.tab {w : World} {ao : Option Addr} {ts : List TV} (h : CellsAt w ao (tcs ts)) (k : Nat) (hk : k < ts.length) :
    ∃ b off, ao = some ⟨b, off, none⟩ ∧ w.cell? ⟨b, off + k * 3, none⟩ = some (.string ts[k].n) ∧ w.cell? ⟨b, off + k * 3 + 1, none⟩ = some (.slice ts[k].fa ts[k].fs.length ts[k].fc) ∧ w.cell? ⟨b, off + k * 3 + 2, none⟩ = some (.slice ts[k].xa ts[k].xs.length ts[k].xc) := by
  obtain ⟨b, off, ha, hc⟩ := h (flat_ne _ 3 (fun _ => rfl) (by decide) hk)
  have hg : ts[k]? = some ts[k] := by simp [hk]
  refine ⟨b, off, ha, hc _ _ ?_, ?_, ?_⟩
  · exact flat_at _ 3 (fun _ => rfl) ts k 0 _ hg (by decide)
  · rw [Nat.add_assoc]; exact hc _ _ (flat_at _ 3 (fun _ => rfl) ts k 1 _ hg (by decide))
  · rw [Nat.add_assoc]; exact hc _ _ (flat_at _ 3 (fun _ => rfl) ts k 2 _ hg (by decide))
theorem CellsAt.fld {w : World} {ao : Option Addr} {fs : List Fd} (h : CellsAt w ao (fcs fs)) (k : Nat) (hk : k < fs.length) :
    ∃ b off, ao = some ⟨b, off, none⟩ ∧ w.cell? ⟨b, off + k * 2, none⟩ = some (.string fs[k].n) ∧ w.cell? ⟨b, off + k * 2 + 1, none⟩ = some (.int .i64 fs[k].k) := by
  obtain ⟨b, off, ha, hc⟩ := h (flat_ne _ 2 (fun _ => rfl) (by decide) hk)
  have hg : fs[k]? = some fs[k] := by simp [hk]
  refine ⟨b, off, ha, hc _ _ ?_, ?_⟩
  · exact flat_at _ 2 (fun _ => rfl) fs k 0 _ hg (by decide)
  · rw [Nat.add_assoc]; exact hc _ _ (flat_at _ 2 (fun _ => rfl) fs k 1 _ hg (by decide))
theorem CellsAt.idx {w : World} {ao : Option Addr} {xs : List XV} (h : CellsAt w ao (xcs xs)) (k : Nat) (hk : k < xs.length) :
    ∃ b off, ao = some ⟨b, off, none⟩ ∧ w.cell? ⟨b, off + k * 5, none⟩ = some (.string xs[k].x.n) ∧ w.cell? ⟨b, off + k * 5 + 1, none⟩ = some (.slice xs[k].va xs[k].x.ov.length xs[k].vc) ∧ w.cell? ⟨b, off + k * 5 + 2, none⟩ = some (.bool xs[k].x.u) ∧ w.cell? ⟨b, off + k * 5 + 3, none⟩ = some (.bool xs[k].x.l) ∧ w.cell? ⟨b, off + k * 5 + 4, none⟩ = some (.bool xs[k].x.s) := by
  obtain ⟨b, off, ha, hc⟩ := h (flat_ne _ 5 (fun _ => rfl) (by decide) hk)
  have hg : xs[k]? = some xs[k] := by simp [hk]
  refine ⟨b, off, ha, hc _ _ ?_, ?_, ?_, ?_, ?_⟩
  · exact flat_at _ 5 (fun _ => rfl) xs k 0 _ hg (by decide)
  · rw [Nat.add_assoc]; exact hc _ _ (flat_at _ 5 (fun _ => rfl) xs k 1 _ hg (by decide))
  · rw [Nat.add_assoc]; exact hc _ _ (flat_at _ 5 (fun _ => rfl) xs k 2 _ hg (by decide))
  · rw [Nat.add_assoc]; exact hc _ _ (flat_at _ 5 (fun _ => rfl) xs k 3 _ hg (by decide))
  · rw [Nat.add_assoc]; exact hc _ _ (flat_at _ 5 (fun _ => rfl) xs k 4 _ hg (by decide))
theorem CellsAt.num {w : World} {ao : Option Addr} {l : List Int} (h : CellsAt w ao (ics l)) (k : Nat) (hk : k < l.length) :
    ∃ b off, ao = some ⟨b, off, none⟩ ∧ w.cell? ⟨b, off + k, none⟩ = some (.int .i64 l[k]) := by
  obtain ⟨b, off, ha, hc⟩ := h (by intro e; have := ics_length l; rw [e] at this; simp at this; omega)
  exact ⟨b, off, ha, hc _ _ (by simp [ics, hk])⟩
theorem CellsAt.str {w : World} {ao : Option Addr} {l : List ByteArray} (h : CellsAt w ao (l.map Value.string)) (k : Nat) (hk : k < l.length) :
    ∃ b off, ao = some ⟨b, off, none⟩ ∧ w.cell? ⟨b, off + k, none⟩ = some (.string l[k]) := by
  obtain ⟨b, off, ha, hc⟩ := h (by intro e; simp at e; subst e; simp at hk)
  exact ⟨b, off, ha, hc _ _ (by simp [hk])⟩
theorem beq_toList (a b : ByteArray) : (a.toList == b.toList) = decide (a = b) := by
  rw [ByteArray.toList_eq, ByteArray.toList_eq]
  by_cases h : a = b
  · subst h; simp
  · have : ¬ a.data.toList = b.data.toList := fun e => h (Go.WideShapes.bytes_inj e)
    rw [beq_eq_false_iff_ne.2 this, decide_eq_false h]
theorem beq_lit (a : ByteArray) (l : List UInt8) : (a.toList == l) = decide (a = ⟨l.toArray⟩) := by
  have : l = (⟨l.toArray⟩ : ByteArray).toList := by rw [ByteArray.toList_eq]
  conv => lhs; rw [this]
  exact beq_toList _ _
theorem toList_ne {a b : ByteArray} (h : ¬ a = b) : ¬ a.toList = b.toList := by
  rw [ByteArray.toList_eq, ByteArray.toList_eq]
  exact fun e => h (Go.WideShapes.bytes_inj e)
def kwV : Value := .agg #[.int .i64 1, .string textW, .int .i64 2, .string numW, .int .i64 3, .string listW]
theorem ret_num {a b : Int} (h : a = b) : Ending.returned (.int .i64 a) = .returned (.int .i64 b) := by rw [h]
/-- A list of values is searched from the front. -/
theorem any_at {α : Type} (p : α → Bool) (l : List α) (k : Nat) (h : k < l.length) (hp : p l[k] = true) : true = l.any p := (List.any_eq_true.2 ⟨_, List.getElem_mem h, hp⟩).symm
def noneTo {α : Type} (p : α → Bool) (l : List α) (k : Nat) : Prop := ∀ i (h : i < l.length), i < k → p l[i] = false
theorem noneTo.zero {α : Type} (p : α → Bool) (l : List α) : noneTo p l 0 := fun i h h' => by omega
theorem noneTo.succ {α : Type} {p : α → Bool} {l : List α} {k : Nat} (h : noneTo p l k) (hk : k < l.length) (hp : p l[k] = false) : noneTo p l (k + 1) := by
  intro i hi h'
  rcases Nat.lt_or_ge i k with h1 | h1
  · exact h i hi h1
  · obtain rfl : i = k := by omega
    exact hp
theorem noneTo.any {α : Type} {p : α → Bool} {l : List α} {k : Nat} (h : noneTo p l k) (hk : l.length ≤ k) : false = l.any p := by
  symm
  rw [List.any_eq_false]
  intro x hx
  obtain ⟨i, hi, rfl⟩ := List.getElem_of_mem hx
  rw [h i hi (by omega)]
  simp
theorem place_hit {fs : List Fd} {n : ByteArray} {k : Nat} (hk : k < fs.length) (h : fs[k].n = n) (hb : noneTo (fun f => decide (f.n = n)) fs k) : (k : Int) = placeF fs n := by
  have : fs.findIdx? (fun f => decide (f.n = n)) = some k := by
    rw [List.findIdx?_eq_some_iff_getElem]
    exact ⟨hk, by simpa using h, fun j hj => by simp [hb j (by omega) hj]⟩
  simp [placeF, this]
theorem place_none {fs : List Fd} {n : ByteArray} {k : Nat} (hk : fs.length ≤ k) (hb : noneTo (fun f => decide (f.n = n)) fs k) : -1 = placeF fs n := by
  have : fs.findIdx? (fun f => decide (f.n = n)) = none := by
    rw [List.findIdx?_eq_none_iff]
    intro x hx
    obtain ⟨j, hj, rfl⟩ := List.getElem_of_mem hx
    exact hb j hj (by omega)
  simp [placeF, this]
theorem place_range (fs : List Fd) (n : ByteArray) : placeF fs n = -1 ∨ (0 ≤ placeF fs n ∧ placeF fs n < fs.length) := by
  unfold placeF
  cases h : fs.findIdx? (fun f => decide (f.n = n)) with
  | none => exact .inl rfl
  | some i =>
    rw [List.findIdx?_eq_some_iff_getElem] at h
    obtain ⟨hi, _⟩ := h
    right
    simp; exact hi
theorem all_no {α : Type} {p : α → Bool} {l : List α} {k : Nat} (h : k < l.length) (hp : p l[k] = false) : false = l.all p := by
  symm
  rw [List.all_eq_false]
  exact ⟨_, List.getElem_mem h, by rw [hp]; simp⟩
def allTo {α : Type} (p : α → Bool) (l : List α) (k : Nat) : Prop := ∀ i (h : i < l.length), i < k → p l[i] = true
theorem allTo.succ {α : Type} {p : α → Bool} {l : List α} {k : Nat} (h : allTo p l k) (hk : k < l.length) (hp : p l[k] = true) : allTo p l (k + 1) := by
  intro i hi h'
  rcases Nat.lt_or_ge i k with h1 | h1
  · exact h i hi h1
  · obtain rfl : i = k := by omega
    exact hp
theorem allTo.all {α : Type} {p : α → Bool} {l : List α} {k : Nat} (h : allTo p l k) (hk : l.length ≤ k) : true = l.all p := by
  symm
  rw [List.all_eq_true]
  intro x hx
  obtain ⟨i, hi, rfl⟩ := List.getElem_of_mem hx
  exact h i hi (by omega)
theorem twice_at {ws : List ByteArray} {k : Nat} (hk : k < ws.length) (h : ws[k] ∈ ws.take k) : true = twiceW ws := by
  have : ¬ ws.Nodup := by
    intro hn
    obtain ⟨i, hi, e⟩ := List.getElem_of_mem h
    rw [List.getElem_take] at e
    have hik : i < k := by simp at hi; omega
    exact (List.pairwise_iff_getElem.1 hn i k (by omega) hk hik) e
  simp [twiceW, this]
def onceTo (ws : List ByteArray) (k : Nat) : Prop := ∀ i (h : i < ws.length), i < k → ws[i] ∉ ws.take i
theorem twice_none {ws : List ByteArray} {k : Nat} (hk : ws.length ≤ k) (h : onceTo ws k) : false = twiceW ws := by
  have : ws.Nodup := by
    refine List.pairwise_iff_getElem.2 fun i j hi hj hij e => ?_
    apply h j hj (by omega)
    rw [← e]
    rw [List.mem_take_iff_getElem]
    exact ⟨i, by omega, rfl⟩
  simp [twiceW, this]
theorem onceTo.succ {ws : List ByteArray} {k : Nat} (h : onceTo ws k) (hk : k < ws.length) (hp : ws[k] ∉ ws.take k) : onceTo ws (k + 1) := by
  intro i hi h'
  rcases Nat.lt_or_ge i k with h1 | h1
  · exact h i hi h1
  · obtain rfl : i = k := by omega
    exact hp
theorem CellsAt.tail {w : World} {b off : Nat} {x : Value} {r : List Value} (h : CellsAt w (some ⟨b, off, none⟩) (x :: r)) : CellsAt w (some ⟨b, off + 1, none⟩) r := by
  intro hne
  obtain ⟨b', off', e, hc⟩ := h (by simp)
  simp only [Option.some.injEq, Addr.mk.injEq] at e
  obtain ⟨rfl, rfl, _⟩ := e
  refine ⟨b, off + 1, rfl, fun j u hj => ?_⟩
  have := hc (j + 1) u (by simpa using hj)
  rw [show off + 1 + j = off + (j + 1) by omega]
  exact this
theorem lists_succ (fs : List Fd) (ov : List Int) (k : Nat) (hk : k < ov.length) : listsOf fs (ov.take (k + 1)) = listsOf fs (ov.take k) + (if (fs.getD ov[k].toNat ⟨⟨#[]⟩, 0⟩).k = 3 then 1 else 0) := by
  unfold listsOf
  rw [List.take_succ_eq_append_getElem hk, List.filter_append, List.length_append]
  congr 1
  by_cases h : (fs.getD ov[k].toNat ⟨⟨#[]⟩, 0⟩).k = 3
  · rw [if_pos h, List.filter_cons_of_pos (by rw [decide_eq_true h])]; rfl
  · rw [if_neg h, List.filter_cons_of_neg (by simp only [decide_eq_true_eq]; exact h)]; rfl
theorem lists_le (fs : List Fd) (ov : List Int) : listsOf fs ov ≤ ov.length := List.length_filter_le _ _
theorem below_draws (w : World) (m : Nat) : Below w.heap.size w (w.drewN m) := by
  induction m with
  | zero => exact Below.refl _ _
  | succ m ih => exact ih.drew
/-- append(s, u), u laid right ahead. -/
theorem append_row (W : World) {ops : Array Oper} {rest : List Oper} {o : Oper} {a : Act} {Q : Exit → Act → World → Prop} (hgd : o.guard = none) (s x : Operand) (t e : TypeId) (z : Value) (size bytes : Nat)
    (ht : Tryd.prog.underlying t = some (.slice e)) (hi : (Tryd.prog.info? e).map (fun i => (i.zero, i.size, i.bytes)) = some (some z, size, bytes)) (hzs : z.cells.size = size) (hsz : 0 < size)
    (ho : o.op = .call { callee := .builtin .append, args := #[s, x], argTypes := #[t, t] })
    (B : Nat) (v : Value) (n : Nat) (l : List Value) (hs : a.eval s = v) (us : List Value) (hus : us.length = size) (h1 : ∀ u ∈ us, u.oneCell' = true) (g : Nat) (cs : Array Value) (hcs : cs = us.toArray) (hx : a.eval x = .slice (some ⟨g, 0, none⟩) 1 1)
    (hg : g = W.heap.size) (hown : W.ownsRow B e size v n l) (hn : n ≤ 4194304) (hlen : (n + 1) * bytes ≤ 140737488355328) (hB : B ≤ W.heap.size)
    (h : ∀ v' w', w'.ownsRow B e size v' (n + 1) (l ++ us) → Grew W w' v v' → wpList Tryd.prog ops Q rest (a.put o.dst v') w') : wpList Tryd.prog ops Q (o :: rest) a (W.alloc (.cells cs e)) := by
  obtain ⟨i0, hi0, hb⟩ := Option.map_eq_some_iff.1 hi
  simp only [Prod.mk.injEq] at hb
  obtain ⟨hz0, hz1, hz2⟩ := hb
  subst hg hcs
  refine wpList_append_grew _ hgd s x t ho B e i0 z size bytes ht hi0 hz0 hz1 hz2 hzs hsz v n l hs (hown.alloc _) ⟨W.heap.size, 0, none⟩ 1 1 us hx (by omega) (cells_new _ _ _) h1 (by unfold maxLen; omega) hlen (by simp; omega) ?_
  intro v' w' h1 h2 _
  exact h v' w' h1 h2.ofAlloc
theorem tcs_snoc (ts : List TV) (t : TV) : tcs (ts ++ [t]) = tcs ts ++ [.string t.n, t.fv, t.xv] := by simp [tcs]
def tbs (ts : List TV) : List Tb := ts.map TV.tb
theorem name_size {s : ByteArray} (h : nameB s = true) : s.size ≤ 32 := by
  unfold nameB nameL at h
  simp only [Bool.and_eq_true, decide_eq_true_eq] at h
  have := h.1.1.2
  simpa using this
theorem any_tbs (ts : List TV) (n : ByteArray) : (tbs ts).any (fun t => decide (t.n = n)) = ts.any (fun t => decide (t.n = n)) := by
  unfold tbs; rw [List.any_map]; rfl
theorem bare_nil : bareB (tbs []) = false := rfl
theorem bare_snoc (us : List TV) (t : TV) : bareB (tbs (us ++ [t])) = (t.xs.length == 0) := by
  simp [bareB, tbs, TV.tb]
theorem grew_lies {w w4 : World} {o : Obj} {v v' : Value} {g : Nat} (hg : (w.alloc o).grownBy w4 v.ownBlock) (hat : v.ownBlock = some g ∨ g = (w.alloc o).heap.size) (hv : v'.ownBlock = some g) : Grew w w4 v v' := by
  refine ⟨⟨hg.os, hg.tape, hg.output, Nat.le_trans (by simp) hg.size, fun k hk hne => (hg.block k (by simp; omega) hne).trans (Below.heap_alloc _ _ _ hk)⟩, fun k hk => ?_⟩
  rw [hv] at hk
  cases hk
  rcases hat with h | h
  · exact .inl h
  · right; rw [h]; simp
theorem info_num : (Tryd.prog.info? 3).map (fun i => (i.zero, i.size, i.bytes)) = some (some (.int .i64 0), 1, 8) := by kernel_rfl
theorem info_of {P : Program} {e : TypeId} {z : Value} {a b : Nat} (h : (P.info? e).map (fun i => (i.zero, i.size, i.bytes)) = some (some z, a, b)) : ∃ i, P.info? e = some i ∧ i.zero = some z ∧ i.size = a ∧ i.bytes = b := by
  obtain ⟨i, hi, hb⟩ := Option.map_eq_some_iff.1 h
  simp only [Prod.mk.injEq] at hb
  exact ⟨i, hi, hb.1, hb.2.1, hb.2.2⟩
theorem fcs_snoc (fs : List Fd) (f : Fd) : fcs (fs ++ [f]) = fcs fs ++ [.string f.n, .int .i64 f.k] := by simp [fcs]
theorem xcs_snoc (xs : List XV) (x : XV) : xcs (xs ++ [x]) = xcs xs ++ [.string x.x.n, x.v, .bool x.x.u, .bool x.x.l, .bool x.x.s] := by simp [xcs]
theorem tcs_set1 (us : List TV) (t t' : TV) (hn : t'.n = t.n) (hx : t'.xv = t.xv) : (tcs (us ++ [t])).set (us.length * 3 + 1) t'.fv = tcs (us ++ [t']) := by
  rw [tcs_snoc, tcs_snoc, List.set_append_right _ _ (by rw [tcs_length]; omega), tcs_length, show us.length * 3 + 1 - us.length * 3 = 1 by omega, hn, hx]
  rfl
theorem tcs_set2 (us : List TV) (t t' : TV) (hn : t'.n = t.n) (hf : t'.fv = t.fv) : (tcs (us ++ [t])).set (us.length * 3 + 2) t'.xv = tcs (us ++ [t']) := by
  rw [tcs_snoc, tcs_snoc, List.set_append_right _ _ (by rw [tcs_length]; omega), tcs_length, show us.length * 3 + 2 - us.length * 3 = 2 by omega, hn, hf]
  rfl
theorem kind_range {s : ByteArray} (h : ¬ kindB s = 0) : 1 ≤ kindB s ∧ kindB s ≤ 3 := by
  unfold kindB at h ⊢
  split
  · decide
  · split
    · decide
    · split
      · decide
      · simp_all
theorem nil_or_snoc {α : Type} (l : List α) : l = [] ∨ ∃ us t, l = us ++ [t] := by
  rcases List.eq_nil_or_concat l with h | ⟨us, t, h⟩
  · exact .inl h
  · exact .inr ⟨us, t, by rw [h, List.concat_eq_append]⟩
theorem tbs_snoc (us : List TV) (t : TV) : tbs (us ++ [t]) = tbs us ++ [t.tb] := by simp [tbs]
theorem one_size (c : UInt8) : (⟨#[c]⟩ : ByteArray).size = 1 := rfl
theorem wsOf_length (s : ByteArray) (c : UInt8) : (wsOf s c).length = Lib.countB s ⟨#[c]⟩ + 1 := Lib.splitB_all _ (by rw [one_size]; decide) 0 _ s rfl
theorem wsOf_most (s : ByteArray) (c : UInt8) : (wsOf s c).length ≤ s.size + 1 := by
  rw [wsOf_length]
  have := Lib.countB_le ⟨#[c]⟩ (by rw [one_size]; decide) s.size s (Nat.le_refl _)
  omega
theorem splitB_size (sep : ByteArray) : ∀ (k : Nat) (s : ByteArray), ∀ x ∈ Lib.splitB sep 0 k s, x.size ≤ s.size
  | 0, s, x, hx => by
    rw [Lib.splitB_zero] at hx
    simp at hx; subst hx; exact Nat.le_refl _
  | k + 1, s, x, hx => by
    unfold Lib.splitB at hx
    split at hx
    · simp at hx; subst hx; exact Nat.le_refl _
    · rcases List.mem_cons.1 hx with rfl | hx
      · rw [ByteArray.size_extract]; omega
      · have := splitB_size sep k _ x hx
        rw [ByteArray.size_extract] at this
        omega
theorem wsOf_size (s : ByteArray) (c : UInt8) : ∀ x ∈ wsOf s c, x.size ≤ s.size := splitB_size _ _ s
theorem row_mono {w : World} {B B' : Nat} {e : TypeId} {size : Nat} {v : Value} {n : Nat} {l : List Value} (h : w.ownsRow B e size v n l) (hB : B' ≤ B) : w.ownsRow B' e size v n l := by
  refine ⟨h.1, ?_⟩
  rcases h.2 with h | ⟨g, cap, cur, hv, hb, r⟩
  · exact .inl h
  · exact .inr ⟨g, cap, cur, hv, Nat.le_trans hB hb, r⟩
theorem CellsAt.drop {w : World} {b off : Nat} : ∀ (n : Nat) {r : List Value} , CellsAt w (some ⟨b, off, none⟩) r → CellsAt w (some ⟨b, off + n, none⟩) (r.drop n)
  | 0, r, h => by simpa using h
  | n + 1, [], h => by intro hne; simp at hne
  | n + 1, x :: r, h => by
    have := CellsAt.drop n h.tail
    rw [show off + (n + 1) = off + 1 + n by omega, List.drop_succ_cons]
    exact this
theorem takeF_le (f : ByteArray) (l : List ByteArray) : (takeF f l).2.length ≤ l.length := by
  cases l with
  | nil => simp [takeF]
  | cons a l =>
    show (if a = f then (true, l) else (false, a :: l)).2.length ≤ _
    split <;> simp
/-- words[3:] -/
def restV (wb wl cap : Nat) : Value := if cap = 3 then .slice (some ⟨wb, 0, none⟩) wl 0 else .slice (some ⟨wb, 3, none⟩) wl (cap - 3)
theorem drop3_run (wb wl cap : Nat) (h : wl + 3 ≤ cap) (W : World) : (Instr.slice 23 (.slice (some ⟨wb, 0, none⟩) (wl + 3) cap) (some (.int .i64 3)) none none).run Tryd.prog W = .ok (restV wb wl cap) W := by
  unfold restV
  by_cases hc : cap = 3
  · subst hc
    obtain rfl : wl = 0 := by omega
    go_simp
  · rw [if_neg hc]
    have h1 : (3 : Int) ≤ (wl : Int) + 3 := by omega
    have h2 : (wl : Int) + 3 ≤ (cap : Int) := by omega
    go_simp
theorem restV_form {w : World} {wb wl cap : Nat} {l : List Value} (hl : l.length = wl) (h : wl + 3 ≤ cap) (hc : CellsAt w (some ⟨wb, 3, none⟩) l) : ∃ ao c, restV wb wl cap = .slice ao wl c ∧ CellsAt w ao l ∧ wl ≤ c := by
  unfold restV
  by_cases h3 : cap = 3
  · rw [if_pos h3]
    refine ⟨_, _, rfl, fun hne => ?_, by omega⟩
    exact absurd (List.length_eq_zero_iff.1 (by omega)) hne
  · rw [if_neg h3]
    exact ⟨_, _, rfl, hc, by omega⟩
theorem rLines_skip {k : Nat} {ls : List ByteArray} {st : St} (hk : k < ls.length) (h : ls[k] = ⟨#[]⟩) : rLines (k + 1) (ls.drop k) st = rLines ((k + 1 : Nat) + 1) (ls.drop (k + 1)) st := by
  rw [List.drop_eq_getElem_cons hk, rLines, if_pos h]
  rfl
theorem rLines_bad {k : Nat} {ls : List ByteArray} {st : St} {e : Int × Int} (hk : k < ls.length) (h : ¬ ls[k] = ⟨#[]⟩) (hr : rLine (k + 1) (wsOf ls[k] 32) st = .error e) : rLines (k + 1) (ls.drop k) st = .error e := by
  rw [List.drop_eq_getElem_cons hk, rLines, if_neg h, hr]
theorem rLines_next {k : Nat} {ls : List ByteArray} {st st' : St} (hk : k < ls.length) (h : ¬ ls[k] = ⟨#[]⟩) (hr : rLine (k + 1) (wsOf ls[k] 32) st = .ok st') : rLines (k + 1) (ls.drop k) st = rLines ((k + 1 : Nat) + 1) (ls.drop (k + 1)) st' := by
  rw [List.drop_eq_getElem_cons hk, rLines, if_neg h, hr]
  rfl
/-- The pieces between the bytes c. -/
def sp (c : UInt8) : List UInt8 → List (List UInt8)
  | [] => [[]]
  | b :: l => if b = c then [] :: sp c l else match sp c l with
    | p :: r => (b :: p) :: r
    | [] => [[b]]
theorem sp_cons (c b : UInt8) (l : List UInt8) : sp c (b :: l) = if b = c then [] :: sp c l else match sp c l with
    | p :: r => (b :: p) :: r
    | [] => [[b]] := rfl
theorem sp_ne (c : UInt8) : ∀ l, sp c l ≠ []
  | [] => by simp [sp]
  | b :: l => by
    unfold sp
    split
    · simp
    · split <;> simp
theorem sp_none (c : UInt8) : ∀ l : List UInt8, (∀ k : Nat, l[k]? ≠ some c) → sp c l = [l]
  | [], _ => rfl
  | b :: l, h => by
    have h0 : b ≠ c := fun e => h 0 (by simp [e])
    have ih := sp_none c l (fun k => by simpa using h (k + 1))
    rw [sp_cons, if_neg h0, ih]
theorem sp_hit (c : UInt8) : ∀ (o : Nat) (l : List UInt8), l[o]? = some c → (∀ k : Nat, k < o → l[k]? ≠ some c) → sp c l = l.take o :: sp c (l.drop (o + 1))
  | _, [], h, _ => by simp at h
  | 0, b :: l, h, _ => by
    simp at h
    rw [sp_cons, if_pos h]
    simp
  | o + 1, b :: l, h, hk => by
    have h0 : b ≠ c := fun e => hk 0 (by omega) (by simp [e])
    have ih := sp_hit c o l (by simpa using h) (fun k hkl => by simpa using hk (k + 1) (by omega))
    rw [sp_cons, if_neg h0, ih]
    simp
theorem splitK_sp (c : UInt8) : ∀ (n : Nat) (l : List UInt8), l.length ≤ n → Lib.splitK [c] 0 (Lib.count l [c]) l = sp c l
  | n, l, hn => by
    have hge := Lib.index_ge l [c]
    by_cases hm : Lib.index l [c] = -1
    · rw [Lib.count_miss hm]
      rw [Lib.index_one] at hm
      rw [sp_none c l (Lib.indexByte_none hm)]
      rfl
    · obtain ⟨i, hi⟩ : ∃ i : Nat, Lib.index l [c] = i := ⟨(Lib.index l [c]).toNat, by omega⟩
      have hi2 := hi
      rw [Lib.index_one] at hi2
      obtain ⟨h1, h2⟩ := Lib.indexByte_some hi2
      have hlt : i < l.length := (List.getElem?_eq_some_iff.1 h1).1
      rw [Lib.count_hit (by simp) hi, Nat.add_comm 1, Lib.splitK, if_neg (by rw [hi]; simp), hi, sp_hit c i l h1 h2]
      cases n with
      | zero => omega
      | succ n =>
        have := splitK_sp c n (l.drop (i + 1)) (by simp; omega)
        simp only [Int.toNat_natCast, Nat.add_zero, List.length_cons, List.length_nil, Nat.zero_add]
        rw [this]
theorem ws_sp (s : ByteArray) (c : UInt8) : (wsOf s c).map (·.data.toList) = sp c s.data.toList := by
  unfold wsOf
  rw [Lib.splitB_data]
  exact splitK_sp c _ _ (Nat.le_refl _)
theorem sp_free (c : UInt8) : ∀ l, ∀ p ∈ sp c l, c ∉ p
  | [], p, hp => by simp [sp] at hp; subst hp; simp
  | b :: l, p, hp => by
    have ih := sp_free c l
    unfold sp at hp
    split at hp
    · rcases List.mem_cons.1 hp with rfl | hp
      · simp
      · exact ih p hp
    · next hb =>
      cases hs : sp c l with
      | nil => exact absurd hs (sp_ne c l)
      | cons q r =>
        rw [hs] at hp ih
        rcases List.mem_cons.1 hp with rfl | hp
        · have := ih q (by simp)
          simp [this, Ne.symm hb]
        · exact ih p (by simp [hp])
theorem sp_piece (c : UInt8) : ∀ (p l : List UInt8), c ∉ p → sp c (p ++ c :: l) = p :: sp c l
  | [], l, _ => by
    show sp c (c :: l) = _
    rw [sp_cons, if_pos rfl]
  | b :: p, l, h => by
    simp only [List.mem_cons, not_or] at h
    show sp c (b :: (p ++ c :: l)) = _
    rw [sp_cons, if_neg (Ne.symm h.1), sp_piece c p l h.2]
theorem sp_lines (c : UInt8) : ∀ ls : List (List UInt8), (∀ p ∈ ls, c ∉ p) → sp c (ls.flatMap (fun p => p ++ [c])) = ls ++ [[]]
  | [], _ => rfl
  | p :: ls, h => by
    have e : (p :: ls).flatMap (fun p => p ++ [c]) = p ++ c :: ls.flatMap (fun p => p ++ [c]) := by simp
    rw [e, sp_piece c p _ (h p (by simp)), sp_lines c ls (fun q hq => h q (by simp [hq]))]
    rfl
/-- The text without its empty lines. -/
def fullL (text : ByteArray) : List ByteArray := (wsOf text 10).filter fun l => decide (¬ l = ⟨#[]⟩)
def plainL (text : ByteArray) : List UInt8 := (fullL text).flatMap fun l => l.data.toList ++ [10]
theorem takeF_back (f : ByteArray) (l : List ByteArray) : (if (takeF f l).1 then [f] else []) ++ (takeF f l).2 = l := by
  cases l with
  | nil => rfl
  | cons a l =>
    show (if (if a = f then (true, l) else (false, a :: l)).1 then [f] else []) ++ (if a = f then (true, l) else (false, a :: l)).2 = a :: l
    split
    · next h => rw [h]; rfl
    · rfl
theorem dropLast_getLast {ts : List Tb} {t : Tb} (h : ts.getLast? = some t) : ts = ts.dropLast ++ [t] := by
  rcases nil_or_snoc ts with rfl | ⟨us, u, rfl⟩
  · simp at h
  · simp at h; subst h; simp
theorem words_all {ws : List ByteArray} (h : 3 ≤ ws.length) : ws = [ws.getD 0 ⟨#[]⟩, ws.getD 1 ⟨#[]⟩, ws.getD 2 ⟨#[]⟩] ++ ws.drop 3 := by
  match ws, h with
  | a :: b :: c :: r, _ => rfl
theorem full_ws (text : ByteArray) : wsOf ⟨(plainL text).toArray⟩ 10 = fullL text ++ [⟨#[]⟩] := by
  have h1 := ws_sp ⟨(plainL text).toArray⟩ 10
  have e : plainL text = ((fullL text).map (·.data.toList)).flatMap fun p => p ++ [10] := by unfold plainL; rw [List.flatMap_map]
  have hfree : ∀ p ∈ (fullL text).map (·.data.toList), (10 : UInt8) ∉ p := by
    intro p hp
    obtain ⟨a, ha, rfl⟩ := List.mem_map.1 hp
    have hm : a.data.toList ∈ sp 10 text.data.toList := by rw [← ws_sp]; exact List.mem_map_of_mem (List.mem_filter.1 ha).1
    exact sp_free 10 _ _ hm
  have h2 : (wsOf ⟨(plainL text).toArray⟩ 10).map (·.data.toList) = (fullL text ++ [(⟨#[]⟩ : ByteArray)]).map (fun a : ByteArray => a.data.toList) := by
    rw [h1]
    show sp 10 ((plainL text).toArray.toList) = _
    rw [List.toList_toArray, e, sp_lines 10 _ hfree, List.map_append]
    rfl
  exact List.map_inj_right (fun a b hab => Go.WideShapes.bytes_inj hab) |>.1 h2
theorem parse_long {text : ByteArray} (hl : (plainL text).length > 8192) : parseP ⟨(plainL text).toArray⟩ = .error (0, 60) := by
  unfold parseP
  rw [if_pos (by show (plainL text).toArray.size > 8192; rw [List.size_toArray]; omega)]
theorem info_str : (Tryd.prog.info? 9).map (fun i => (i.zero, i.size, i.bytes)) = some (some (.string ⟨#[]⟩), 1, 16) := by kernel_rfl

end Go.Proofs.YtelhgjepjieocaaDoor
