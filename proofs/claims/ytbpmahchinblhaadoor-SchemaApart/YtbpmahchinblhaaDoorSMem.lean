/- Layer 6 (schema): tables in memory. -/
import Derived.Test.YtbpmahchinblhaaDoorSBase
import Derived.Test.YtbpmahchinblhaaDoorChecked
import Derived.MapKept
namespace Go.Proofs.YtbpmahchinblhaaDoor
open Go.RowKit
set_option linter.unusedVariables false

theorem lt_blk {w : World} {b : Nat} {o : Obj} (h : w.heap[b]? = some o) : b < w.heap.size := by
  rcases Nat.lt_or_ge b w.heap.size with h' | h'
  · exact h'
  · rw [Array.getElem?_eq_none h'] at h; cases h
theorem cell_blk {w : World} {b i : Nat} {cs : Array Value} {t : TypeId} (h : w.heap[b]? = some (.cells cs t)) : w.cell? ⟨b, i, none⟩ = cs[i]? := by simp [World.cell?, h]
theorem frozen_blk {w : World} {b i : Nat} {cs : Array Value} {t : TypeId} (h : w.heap[b]? = some (.cells cs t)) : w.frozen? ⟨b, i, none⟩ = false := by simp [World.frozen?, h]
theorem set_blk {w : World} {b i : Nat} {cs : Array Value} {t : TypeId} (h : w.heap[b]? = some (.cells cs t)) (v : Value) : (w.setCell ⟨b, i, none⟩ v).heap[b]? = some (.cells (cs.setIfInBounds i v) t) := heap_setCell_same w b i cs t v h

theorem new_blk (w : World) (o : Obj) : (w.alloc o).heap[w.heap.size]? = some o := (MapKept.heap_alloc w o).1
theorem old_blk {w : World} {b : Nat} {o : Obj} (h : w.heap[b]? = some o) (o' : Obj) : (w.alloc o').heap[b]? = some o := by rw [Below.heap_alloc _ _ _ (lt_blk h)]; exact h
/-- A slice of the call's own: its block has the elements' type. -/
theorem row_typed {w : World} {B : Nat} {e : TypeId} {size : Nat} {v : Value} {n : Nat} {l : List Value} (h : w.ownsRow B e size v n l) : ∀ k, v.ownBlock = some k → ∃ cs, w.heap[k]? = some (.cells cs e) := by
  intro k hk
  rcases h.2 with ⟨rfl, h0⟩ | ⟨g, cap, cur, rfl, hb, hg, _⟩
  · simp [Value.ownBlock] at hk
  · simp [Value.ownBlock] at hk
    subst hk
    exact ⟨cur, hg⟩
theorem row_forms {w : World} {B : Nat} {e : TypeId} {size : Nat} {v : Value} {n : Nat} {l : List Value} (h : w.ownsRow B e size v n l) : ∃ ao cap, v = .slice ao n cap ∧ (0 < n → ∃ g, ao = some ⟨g, 0, none⟩) := by
  rcases h.2 with ⟨rfl, h0⟩ | ⟨g, cap, cur, rfl, _⟩
  · exact ⟨none, 0, by rw [h0], by omega⟩
  · exact ⟨_, _, rfl, fun _ => ⟨g, rfl⟩⟩
/-- No block of another type is the slice's. -/
theorem row_ne {w : World} {B : Nat} {e t : TypeId} {size : Nat} {v : Value} {n : Nat} {l : List Value} (h : w.ownsRow B e size v n l) {b : Nat} {cs : Array Value} (hb : w.heap[b]? = some (.cells cs t)) (hne : e ≠ t) : v.ownBlock ≠ some b := by
  intro he
  obtain ⟨cs', hk⟩ := row_typed h _ he
  have := hk.symm.trans hb
  simp at this
  exact hne this.2
theorem rows_ne {w : World} {B B' : Nat} {e e' : TypeId} {size size' : Nat} {v v' : Value} {n n' : Nat} {l l' : List Value} (h : w.ownsRow B e size v n l) (h' : w.ownsRow B' e' size' v' n' l') (hne : e ≠ e') : ∀ k, v'.ownBlock = some k → v.ownBlock ≠ some k := by
  intro k hk
  obtain ⟨cs, hb⟩ := row_typed h' k hk
  exact row_ne h hb hne
theorem row_below {w w' : World} {B : Nat} {e : TypeId} {size : Nat} {v : Value} {n : Nat} {l : List Value} (h : w.ownsRow B e size v n l) (hb : Below w.heap.size w w') : w'.ownsRow B e size v n l :=
  World.ownsRow.kept (row := none) h ⟨hb.os, hb.tape, hb.output, hb.size, fun k hk _ => hb.block k hk⟩ (by cases v.ownBlock <;> simp)
/-- A slice stays as it is while another one grows. -/
theorem row_grew {w w' : World} {B : Nat} {e : TypeId} {size : Nat} {v u u' : Value} {n : Nat} {l : List Value} (h : w.ownsRow B e size v n l) (hg : Grew w w' u u') (hne : ∀ k, u.ownBlock = some k → v.ownBlock ≠ some k) : w'.ownsRow B e size v n l := by
  refine World.ownsRow.kept h hg.grown ?_
  cases hv : v.ownBlock with
  | none => exact .inl rfl
  | some k => exact .inr (fun e => hne k e.symm hv)
theorem row_set {w : World} {B : Nat} {e : TypeId} {size : Nat} {v : Value} {n : Nat} {l : List Value} (h : w.ownsRow B e size v n l) {a : Addr} (hne : v.ownBlock ≠ some a.block) (u : Value) : (w.setCell a u).ownsRow B e size v n l := ownsRow_setCell_other h hne u

/-! ### Tables, fields, indexes in memory -/

/-- An index with the slice that holds its places; a table with its two slices. -/
structure XV where
  x : Ix
  va : Option Addr
  vc : Nat
structure TV where
  n : ByteArray
  fs : List Fd
  fa : Option Addr
  fc : Nat
  xs : List XV
  xa : Option Addr
  xc : Nat
abbrev XV.v (x : XV) : Value := .slice x.va x.x.ov.length x.vc
abbrev TV.fv (t : TV) : Value := .slice t.fa t.fs.length t.fc
abbrev TV.xv (t : TV) : Value := .slice t.xa t.xs.length t.xc
def TV.tb (t : TV) : Tb := ⟨t.n, t.fs, t.xs.map (·.x)⟩

def fcs (fs : List Fd) : List Value := fs.flatMap fun f => [.string f.n, .int .i64 f.k]
def xcs (xs : List XV) : List Value := xs.flatMap fun x => [.string x.x.n, x.v, .bool x.x.u, .bool x.x.l, .bool x.x.s]
def tcs (ts : List TV) : List Value := ts.flatMap fun t => [.string t.n, t.fv, t.xv]
def ics (l : List Int) : List Value := l.map (.int .i64)

theorem flat_length {α : Type} (f : α → List Value) (s : Nat) (hf : ∀ a, (f a).length = s) : ∀ l : List α, (l.flatMap f).length = l.length * s
  | [] => by simp
  | a :: l => by rw [List.flatMap_cons, List.length_append, flat_length f s hf l, hf, List.length_cons, Nat.succ_mul]; omega
theorem flat_at {α : Type} (f : α → List Value) (s : Nat) (hf : ∀ a, (f a).length = s) : ∀ (l : List α) (i j : Nat) (a : α), l[i]? = some a → j < s → (l.flatMap f)[i * s + j]? = (f a)[j]?
  | [], i, j, a, h, _ => by simp at h
  | b :: l, 0, j, a, h, hj => by
    simp at h; subst h
    rw [List.flatMap_cons, Nat.zero_mul, Nat.zero_add, List.getElem?_append_left (by rw [hf]; exact hj)]
  | b :: l, i + 1, j, a, h, hj => by
    rw [List.flatMap_cons, List.getElem?_append_right (by rw [hf, Nat.succ_mul]; omega), hf, show (i + 1) * s + j - s = i * s + j by rw [Nat.succ_mul]; omega]
    exact flat_at f s hf l i j a (by simpa using h) hj
theorem fcs_length (l : List Fd) : (fcs l).length = l.length * 2 := flat_length _ 2 (fun _ => rfl) l
theorem xcs_length (l : List XV) : (xcs l).length = l.length * 5 := flat_length _ 5 (fun _ => rfl) l
theorem tcs_length (l : List TV) : (tcs l).length = l.length * 3 := flat_length _ 3 (fun _ => rfl) l
theorem ics_length (l : List Int) : (ics l).length = l.length := by simp [ics]

/-- Slices in blocks of their own. -/
def ApartV (l : List Value) : Prop := l.Pairwise fun a b => ∀ k, a.ownBlock = some k → b.ownBlock ≠ some k

theorem ApartV.snoc {l : List Value} {v : Value} (h : ApartV l) (hv : ∀ u ∈ l, ∀ k, u.ownBlock = some k → v.ownBlock ≠ some k) : ApartV (l ++ [v]) := by
  unfold ApartV
  rw [List.pairwise_append]
  refine ⟨h, by simp, fun a ha b hb => ?_⟩
  simp at hb; subst hb
  exact hv a ha
theorem ApartV.last {l : List Value} {v v' : Value} {N : Nat} (h : ApartV (l ++ [v])) (hp : ∀ k, v'.ownBlock = some k → v.ownBlock = some k ∨ N ≤ k) (hN : ∀ u ∈ l, ∀ k, u.ownBlock = some k → k < N) : ApartV (l ++ [v']) := by
  unfold ApartV at h ⊢
  rw [List.pairwise_append] at h ⊢
  refine ⟨h.1, by simp, fun a ha b hb k hk e => ?_⟩
  simp at hb; subst hb
  rcases hp k e with e' | e'
  · exact h.2.2 a ha v (by simp) k hk e'
  · have := hN a ha k hk; omega
theorem ApartV.ne {l : List Value} {v : Value} (h : ApartV (l ++ [v])) : ∀ u ∈ l, ∀ k, v.ownBlock = some k → u.ownBlock ≠ some k := by
  intro u hu k hk e
  unfold ApartV at h
  rw [List.pairwise_append] at h
  exact h.2.2 u hu v (by simp) k e hk

/-- The places of an index are of its table; names are names; nothing is too much. -/
structure XOk (t : TV) (x : XV) : Prop where
  size : x.x.n.size ≤ 32
  most : x.x.ov.length ≤ 4
  one : 0 < x.x.ov.length
  place : ∀ p ∈ x.x.ov, 0 ≤ p ∧ p < t.fs.length
structure TOk (t : TV) : Prop where
  size : t.n.size ≤ 32
  fsize : ∀ f ∈ t.fs, f.n.size ≤ 32 ∧ 1 ≤ f.k ∧ f.k ≤ 3
  fmost : t.fs.length ≤ 16
  xmost : t.xs.length ≤ 8
  xok : ∀ x ∈ t.xs, XOk t x

/-- One table's own slices lie in memory. -/
structure TabAt (w : World) (B : Nat) (t : TV) : Prop where
  fs : w.ownsRow B 40 2 t.fv t.fs.length (fcs t.fs)
  xs : w.ownsRow B 38 5 t.xv t.xs.length (xcs t.xs)
  ov : ∀ x ∈ t.xs, w.ownsRow B 3 1 x.v x.x.ov.length (ics x.x.ov)

/-- The tables lie in memory, made by the call itself, each slice in a block of its own. -/
structure Tabs (w : World) (B : Nat) (v : Value) (ts : List TV) : Prop where
  row : w.ownsRow B 35 3 v ts.length (tcs ts)
  tab : ∀ t ∈ ts, TabAt w B t
  afs : ApartV (ts.map (·.fv))
  axs : ApartV (ts.map (·.xv))
  aov : ApartV (ts.flatMap fun t => t.xs.map (·.v))
  most : ts.length ≤ 16
  ok : ∀ t ∈ ts, TOk t

theorem TabAt.below {w w' : World} {B : Nat} {t : TV} (h : TabAt w B t) (hb : Below w.heap.size w w') : TabAt w' B t :=
  ⟨row_below h.fs hb, row_below h.xs hb, fun x hx => row_below (h.ov x hx) hb⟩
theorem Tabs.below {w w' : World} {B : Nat} {v : Value} {ts : List TV} (h : Tabs w B v ts) (hb : Below w.heap.size w w') : Tabs w' B v ts :=
  ⟨row_below h.row hb, fun t ht => (h.tab t ht).below hb, h.afs, h.axs, h.aov, h.most, h.ok⟩
theorem TabAt.set {w : World} {B : Nat} {t : TV} (h : TabAt w B t) {b i : Nat} {cs : Array Value} {ty : TypeId} (hb : w.heap[b]? = some (.cells cs ty)) (h1 : 40 ≠ ty) (h2 : 38 ≠ ty) (h3 : 3 ≠ ty) (u : Value) : TabAt (w.setCell ⟨b, i, none⟩ u) B t :=
  ⟨row_set h.fs (row_ne h.fs hb h1) u, row_set h.xs (row_ne h.xs hb h2) u, fun x hx => row_set (h.ov x hx) (row_ne (h.ov x hx) hb h3) u⟩
/-- A store into a block of another type leaves them. -/
theorem Tabs.set {w : World} {B : Nat} {v : Value} {ts : List TV} (h : Tabs w B v ts) {b i : Nat} {cs : Array Value} {ty : TypeId} (hb : w.heap[b]? = some (.cells cs ty)) (h0 : 35 ≠ ty) (h1 : 40 ≠ ty) (h2 : 38 ≠ ty) (h3 : 3 ≠ ty) (u : Value) : Tabs (w.setCell ⟨b, i, none⟩ u) B v ts :=
  ⟨row_set h.row (row_ne h.row hb h0) u, fun t ht => (h.tab t ht).set hb h1 h2 h3 u, h.afs, h.axs, h.aov, h.most, h.ok⟩
theorem Tabs.nil (w : World) (B : Nat) : Tabs w B (.slice none 0 0) [] :=
  ⟨World.ownsRow_nil _ _ _ _, fun t ht => by simp at ht, by simp [ApartV], by simp [ApartV], by simp [ApartV], by simp, fun t ht => by simp at ht⟩

/-- The reader's own block: tables, line, begun. -/
def RdAt (w : World) (rb : Nat) (v : Value) (ln bg : Int) : Prop := w.heap[rb]? = some (.cells #[v, .int .i64 ln, .int .i64 bg] 68)

/-- Below B nothing was written; and no block of texts. -/
structure Fr (B : Nat) (w w' : World) : Prop where
  below : Below B w w'
  strs : ∀ (k : Nat) (cs : Array Value), w.heap[k]? = some (.cells cs 9) → w'.heap[k]? = some (.cells cs 9)

theorem Fr.refl (B : Nat) (w : World) : Fr B w w := ⟨Below.refl _ _, fun _ _ h => h⟩
theorem Fr.trans {B : Nat} {a b c : World} (h : Fr B a b) (k : Fr B b c) : Fr B a c := ⟨h.below.trans k.below, fun i cs hi => k.strs i cs (h.strs i cs hi)⟩
theorem Fr.ofBelow {B : Nat} {a b : World} (h : Below a.heap.size a b) (hB : B ≤ a.heap.size) : Fr B a b := ⟨h.mono hB, fun k cs hk => (h.block k (lt_blk hk)).trans hk⟩
theorem Fr.set {B : Nat} {w : World} {b i : Nat} {cs : Array Value} {t : TypeId} (hb : w.heap[b]? = some (.cells cs t)) (hB : B ≤ b) (ht : 9 ≠ t) (u : Value) : Fr B w (w.setCell ⟨b, i, none⟩ u) := by
  refine ⟨(Below.refl _ _).setCell hB u, fun k ds hk => ?_⟩
  rw [heap_setCell_other _ _ _ _ (fun e => by
    have e' : k = b := e
    subst e'
    have := hb.symm.trans hk
    simp at this
    exact ht this.2.symm)]
  exact hk
theorem Fr.grew {B B' : Nat} {w w' : World} {e : TypeId} {size : Nat} {v v' : Value} {n : Nat} {l : List Value} (h : w.ownsRow B' e size v n l) (hB' : B ≤ B') (hB : B ≤ w.heap.size) (hg : Grew w w' v v') (ht : e ≠ 9) : Fr B w w' := by
  refine ⟨hg.toBelow hB fun k hk => Nat.le_trans hB' (World.ownsRow.lt h k hk).1, fun k cs hk => ?_⟩
  exact (hg.grown.block k (lt_blk hk) (fun e => row_ne h hk ht e.symm)).trans hk
theorem Fr.drew {B : Nat} {a b : World} (h : Fr B a b) : Fr B a b.drew := ⟨⟨h.below.os, h.below.tape, h.below.output, h.below.size, h.below.block⟩, h.strs⟩
theorem Fr.alloc {B : Nat} {a b : World} (h : Fr B a b) (hB : B ≤ b.heap.size) (o : Obj) : Fr B a (b.alloc o) := h.trans (Fr.ofBelow ((Below.refl _ _).alloc (Nat.le_refl _) o) hB)

/-- Texts lie one behind the other in a block of texts. -/
def StrsAt (w : World) (b : Nat) (ws : List ByteArray) : Prop := w.heap[b]? = some (.cells (ws.map Value.string).toArray 9)
theorem StrsAt.fr {B : Nat} {w w' : World} {b : Nat} {ws : List ByteArray} (h : StrsAt w b ws) (hf : Fr B w w') : StrsAt w' b ws := hf.strs _ _ h
theorem StrsAt.below {w w' : World} {b : Nat} {ws : List ByteArray} (h : StrsAt w b ws) (hb : Below w.heap.size w w') : StrsAt w' b ws := (hb.block _ (lt_blk h)).trans h
theorem StrsAt.cell {w : World} {b : Nat} {ws : List ByteArray} (h : StrsAt w b ws) (i : Nat) (hi : i < ws.length) : w.cell? ⟨b, i, none⟩ = some (.string ws[i]) := by
  rw [cell_blk h]; simp [hi]

/-- Cells one behind the other, from an address. -/
def CellsAt (w : World) (ao : Option Addr) (cs : List Value) : Prop := cs ≠ [] → ∃ b off, ao = some ⟨b, off, none⟩ ∧ ∀ j u, cs[j]? = some u → w.cell? ⟨b, off + j, none⟩ = some u
theorem CellsAt.below {w w' : World} {ao : Option Addr} {cs : List Value} (h : CellsAt w ao cs) (hb : Below w.heap.size w w') : CellsAt w' ao cs := by
  intro hne
  obtain ⟨b, off, ha, hc⟩ := h hne
  refine ⟨b, off, ha, fun j u hj => ?_⟩
  have := hc j u hj
  rw [hb.cell (by exact World.block_lt_of_cell? w _ this)]
  exact this
theorem row_cells {w : World} {B : Nat} {e : TypeId} {size : Nat} {ao : Option Addr} {n cap : Nat} {l : List Value} (h : w.ownsRow B e size (.slice ao n cap) n l) : CellsAt w ao l := by
  intro hne
  rcases h.2 with ⟨he, h0⟩ | ⟨g, cap', cur, he, _⟩
  · have := h.1; rw [h0] at this; simp at this; exact absurd this hne
  · simp only [Value.slice.injEq] at he
    obtain ⟨rfl, _, rfl⟩ := he
    refine ⟨g, 0, rfl, fun j u hj => ?_⟩
    have hl : j < n * size := by rw [← h.1]; exact (List.getElem?_eq_some_iff.1 hj).1
    rw [Nat.zero_add, World.ownsRow.cellAt h j hl]
    exact hj
theorem StrsAt.cells {w : World} {b : Nat} {ws : List ByteArray} (h : StrsAt w b ws) : CellsAt w (some ⟨b, 0, none⟩) (ws.map Value.string) := by
  intro hne
  refine ⟨b, 0, rfl, fun j u hj => ?_⟩
  rw [Nat.zero_add, cell_blk h]
  simpa using hj
theorem flat_ne {α : Type} (f : α → List Value) (s : Nat) (hf : ∀ a, (f a).length = s) (hs : 0 < s) {l : List α} {k : Nat} (h : k < l.length) : l.flatMap f ≠ [] := by
  intro e
  have := flat_length f s hf l
  rw [e] at this
  have h2 : 0 < l.length * s := Nat.mul_pos (by omega) hs
  simp at this
  omega
theorem CellsAt.tab {w : World} {ao : Option Addr} {ts : List TV} (h : CellsAt w ao (tcs ts)) (k : Nat) (hk : k < ts.length) :
    ∃ b off, ao = some ⟨b, off, none⟩ ∧ w.cell? ⟨b, off + k * 3, none⟩ = some (.string ts[k].n) ∧ w.cell? ⟨b, off + k * 3 + 1, none⟩ = some (.slice ts[k].fa ts[k].fs.length ts[k].fc) ∧ w.cell? ⟨b, off + k * 3 + 2, none⟩ = some (.slice ts[k].xa ts[k].xs.length ts[k].xc) := by
  obtain ⟨b, off, ha, hc⟩ := h (flat_ne _ 3 (fun _ => rfl) (by decide) hk)
  have hg : ts[k]? = some ts[k] := by simp [hk]
  refine ⟨b, off, ha, hc _ _ ?_, ?_, ?_⟩
  · exact flat_at _ 3 (fun _ => rfl) ts k 0 _ hg (by decide)
  · rw [Nat.add_assoc]; exact hc _ _ (flat_at _ 3 (fun _ => rfl) ts k 1 _ hg (by decide))
  · rw [Nat.add_assoc]; exact hc _ _ (flat_at _ 3 (fun _ => rfl) ts k 2 _ hg (by decide))
theorem CellsAt.fld {w : World} {ao : Option Addr} {fs : List Fd} (h : CellsAt w ao (fcs fs)) (k : Nat) (hk : k < fs.length) :
    ∃ b off, ao = some ⟨b, off, none⟩ ∧ w.cell? ⟨b, off + k * 2, none⟩ = some (.string fs[k].n) ∧ w.cell? ⟨b, off + k * 2 + 1, none⟩ = some (.int .i64 fs[k].k) := by
  obtain ⟨b, off, ha, hc⟩ := h (flat_ne _ 2 (fun _ => rfl) (by decide) hk)
  have hg : fs[k]? = some fs[k] := by simp [hk]
  refine ⟨b, off, ha, hc _ _ ?_, ?_⟩
  · exact flat_at _ 2 (fun _ => rfl) fs k 0 _ hg (by decide)
  · rw [Nat.add_assoc]; exact hc _ _ (flat_at _ 2 (fun _ => rfl) fs k 1 _ hg (by decide))
theorem CellsAt.idx {w : World} {ao : Option Addr} {xs : List XV} (h : CellsAt w ao (xcs xs)) (k : Nat) (hk : k < xs.length) :
    ∃ b off, ao = some ⟨b, off, none⟩ ∧ w.cell? ⟨b, off + k * 5, none⟩ = some (.string xs[k].x.n) ∧ w.cell? ⟨b, off + k * 5 + 1, none⟩ = some (.slice xs[k].va xs[k].x.ov.length xs[k].vc) ∧ w.cell? ⟨b, off + k * 5 + 2, none⟩ = some (.bool xs[k].x.u) ∧ w.cell? ⟨b, off + k * 5 + 3, none⟩ = some (.bool xs[k].x.l) ∧ w.cell? ⟨b, off + k * 5 + 4, none⟩ = some (.bool xs[k].x.s) := by
  obtain ⟨b, off, ha, hc⟩ := h (flat_ne _ 5 (fun _ => rfl) (by decide) hk)
  have hg : xs[k]? = some xs[k] := by simp [hk]
  refine ⟨b, off, ha, hc _ _ ?_, ?_, ?_, ?_, ?_⟩
  · exact flat_at _ 5 (fun _ => rfl) xs k 0 _ hg (by decide)
  · rw [Nat.add_assoc]; exact hc _ _ (flat_at _ 5 (fun _ => rfl) xs k 1 _ hg (by decide))
  · rw [Nat.add_assoc]; exact hc _ _ (flat_at _ 5 (fun _ => rfl) xs k 2 _ hg (by decide))
  · rw [Nat.add_assoc]; exact hc _ _ (flat_at _ 5 (fun _ => rfl) xs k 3 _ hg (by decide))
  · rw [Nat.add_assoc]; exact hc _ _ (flat_at _ 5 (fun _ => rfl) xs k 4 _ hg (by decide))
theorem CellsAt.num {w : World} {ao : Option Addr} {l : List Int} (h : CellsAt w ao (ics l)) (k : Nat) (hk : k < l.length) :
    ∃ b off, ao = some ⟨b, off, none⟩ ∧ w.cell? ⟨b, off + k, none⟩ = some (.int .i64 l[k]) := by
  obtain ⟨b, off, ha, hc⟩ := h (by intro e; have := ics_length l; rw [e] at this; simp at this; omega)
  exact ⟨b, off, ha, hc _ _ (by simp [ics, hk])⟩
theorem CellsAt.str {w : World} {ao : Option Addr} {l : List ByteArray} (h : CellsAt w ao (l.map Value.string)) (k : Nat) (hk : k < l.length) :
    ∃ b off, ao = some ⟨b, off, none⟩ ∧ w.cell? ⟨b, off + k, none⟩ = some (.string l[k]) := by
  obtain ⟨b, off, ha, hc⟩ := h (by intro e; simp at e; subst e; simp at hk)
  exact ⟨b, off, ha, hc _ _ (by simp [hk])⟩

end Go.Proofs.YtbpmahchinblhaaDoor
