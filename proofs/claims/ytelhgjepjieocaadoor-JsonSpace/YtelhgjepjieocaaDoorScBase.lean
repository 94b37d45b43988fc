/- Layer 17 (sched): slices in memory, what is written. -/
import Derived.Test.YtelhgjepjieocaaDoorChecked
import Derived.Test.YtelhgjepjieocaaDoorKOwn
import Derived.WalkKit
import Derived.WalkSpells
import Derived.Defers
import Derived.Laws.Pointers
import Derived.RegionTactic
import Derived.RegionCalls
import Derived.Laws.Rows
import Derived.Laws.CopyOwn
import Derived.KernelRfl
import Derived.Laws.NewBlocks
import Derived.Laws.AppendOwnNone
import Derived.BigQuiet
import Derived.Deep.QuietTactic
import Derived.BigRegion
namespace Go.Proofs.YtelhgjepjieocaaDoor
open Go.RowKit
set_option linter.unusedVariables false

/-- From w to w' no old block was written but those of S. -/
structure Frm (S : Nat → Prop) (w w' : World) : Prop where
  os : w'.os = w.os
  tape : w'.tape = w.tape
  output : w'.output = w.output
  size : w.heap.size ≤ w'.heap.size
  block : ∀ k, k < w.heap.size → ¬ S k → w'.heap[k]? = w.heap[k]?

variable {S S' : Nat → Prop}
theorem Frm.refl (S : Nat → Prop) (w : World) : Frm S w w := ⟨rfl, rfl, rfl, Nat.le_refl _, fun _ _ _ => rfl⟩
theorem Frm.trans {a b c : World} (h : Frm S a b) (k : Frm S b c) : Frm S a c :=
  ⟨k.os.trans h.os, k.tape.trans h.tape, k.output.trans h.output, Nat.le_trans h.size k.size, fun i hi hl => (k.block i (Nat.lt_of_lt_of_le hi h.size) hl).trans (h.block i hi hl)⟩
theorem Frm.alloc {a b : World} (h : Frm S a b) (o : Obj) : Frm S a (b.alloc o) :=
  h.trans ⟨rfl, rfl, rfl, by simp [World.size_alloc], fun k hk _ => Below.heap_alloc _ _ _ hk⟩
theorem Frm.drew {a b : World} (h : Frm S a b) : Frm S a b.drew := ⟨h.os, h.tape, h.output, h.size, h.block⟩
theorem Frm.setCell {a b : World} (h : Frm S a b) (p : Addr) (v : Value) (hp : S p.block ∨ a.heap.size ≤ p.block) : Frm S a (b.setCell p v) :=
  ⟨h.os, h.tape, h.output, by simpa using h.size, fun k hk hl => by
    rw [heap_setCell_other _ _ _ _ (fun e => by subst e; rcases hp with hp | hp; exact hl hp; omega)]
    exact h.block k hk hl⟩
theorem Frm.weaken {a b : World} (h : Frm S a b) (hl : ∀ k, k < a.heap.size → S k → S' k) : Frm S' a b := ⟨h.os, h.tape, h.output, h.size, fun k hk hm => h.block k hk (fun x => hm (hl k hk x))⟩
theorem Frm.toBelow {a b : World} (h : Frm S a b) {B : Nat} (hB : B ≤ a.heap.size) (hl : ∀ k, S k → B ≤ k) : Below B a b :=
  ⟨h.os, h.tape, h.output, h.size, fun k hk => h.block k (by omega) (fun hm => by have := hl k hm; omega)⟩
theorem Frm.ofBelow {a b : World} (h : Below a.heap.size a b) (S : Nat → Prop) : Frm S a b := ⟨h.os, h.tape, h.output, h.size, fun k hk _ => h.block k hk⟩
theorem below_drawsT (w : World) (m : Nat) : Below w.heap.size w (w.drewN m) := by
  induction m with
  | zero => exact Below.refl _ _
  | succ m ih => exact ih.drew
theorem Frm.ofDraws (S : Nat → Prop) (w : World) (n : Nat) : Frm S w (w.drewN n) := Frm.ofBelow (below_drawsT w n) S

theorem lt_of_heapT {w : World} {b : Nat} {o : Obj} (h : w.heap[b]? = some o) : b < w.heap.size := by
  rcases Nat.lt_or_ge b w.heap.size with h' | h'
  · exact h'
  · rw [Array.getElem?_eq_none h'] at h; cases h
theorem cell_blkT {w : World} {b i : Nat} {cs : Array Value} {t : TypeId} (h : w.heap[b]? = some (.cells cs t)) : w.cell? ⟨b, i, none⟩ = cs[i]? := by simp [World.cell?, h]
theorem frozen_blkT {w : World} {b i : Nat} {cs : Array Value} {t : TypeId} (h : w.heap[b]? = some (.cells cs t)) : w.frozen? ⟨b, i, none⟩ = false := by simp [World.frozen?, h]


/-- The values vs lie at an address, one cell each. -/
def VAt (w : World) (ao : Option Addr) (vs : List Value) : Prop := ∀ k (h : k < vs.length), ∃ b off, ao = some ⟨b, off, none⟩ ∧ w.cell? ⟨b, off + k, none⟩ = some vs[k]
theorem VAt.kept {w w' : World} {ao : Option Addr} {vs : List Value} (h : VAt w ao vs) (hb : ∀ a, ao = some a → a.block < w.heap.size → w'.heap[a.block]? = w.heap[a.block]?) : VAt w' ao vs := fun k hk => by
  obtain ⟨b, off, e, hc⟩ := h k hk
  exact ⟨b, off, e, by rw [World.cell?_of_block (a := ⟨b, off + k, none⟩) (hb ⟨b, off, none⟩ e (World.block_lt_of_cell? w ⟨b, off + k, none⟩ hc))]; exact hc⟩
theorem VAt.below {w w' : World} {ao : Option Addr} {vs : List Value} (h : VAt w ao vs) (hb : Below w.heap.size w w') : VAt w' ao vs := h.kept fun a _ hl => hb.block _ hl
theorem VAt.frm {w w' : World} {ao : Option Addr} {vs : List Value} (h : VAt w ao vs) (hf : Frm S w w') (hn : ∀ a, ao = some a → ¬ S a.block) : VAt w' ao vs := h.kept fun a e hl => hf.block _ hl (hn a e)
theorem VAt.drew {w : World} {ao : Option Addr} {vs : List Value} (h : VAt w ao vs) : VAt w.drew ao vs := h.below (below_drawsT w 1)
theorem VAt.nil (w : World) (ao : Option Addr) : VAt w ao [] := fun k hk => by simp at hk
theorem addr_add (b off k : Nat) : (⟨b, off, none⟩ : Addr).add k = ⟨b, off + k, none⟩ := by unfold Addr.add; split <;> simp_all
theorem VAt.news {w : World} {a : Addr} {vs : List Value} (h : VAt w (some a) vs) : ∀ j u, vs[j]? = some u → w.cell? (a.add j) = some u := by
  intro j u hj
  obtain ⟨hl, rfl⟩ := List.getElem?_eq_some_iff.1 hj
  obtain ⟨b, off, e, hc⟩ := h j hl
  simp only [Option.some.injEq] at e
  subst e
  rw [addr_add]; exact hc
theorem VAt.ext {w : World} {ao : Option Addr} {vs ws : List Value} (h : VAt w ao vs) (e : vs = ws) : VAt w ao ws := e ▸ h
theorem VAt.new (w : World) (vs : List Value) (t : TypeId) : VAt (w.alloc (.cells vs.toArray t)) (some ⟨w.heap.size, 0, none⟩) vs := fun k hk => by
  refine ⟨w.heap.size, 0, rfl, ?_⟩
  rw [Nat.zero_add, World.cell?_alloc_mark]
  simp [hk]

def iV (n : Int) : Value := .int .i64 n
def nV (n : Nat) : Value := .int .i64 (n : Int)
def bV (b : Bool) : Value := .bool b
theorem iV_one (l : List Int) : ∀ u ∈ l.map iV, u.oneCell' = true := fun u hu => by obtain ⟨c, _, rfl⟩ := List.mem_map.1 hu; rfl
theorem nV_one (l : List Nat) : ∀ u ∈ l.map nV, u.oneCell' = true := fun u hu => by obtain ⟨c, _, rfl⟩ := List.mem_map.1 hu; rfl
theorem bV_one (l : List Bool) : ∀ u ∈ l.map bV, u.oneCell' = true := fun u hu => by obtain ⟨c, _, rfl⟩ := List.mem_map.1 hu; rfl
theorem VAt.int {w : World} {ao : Option Addr} {l : List Int} (h : VAt w ao (l.map iV)) (k : Nat) (hk : k < l.length) : ∃ b off, ao = some ⟨b, off, none⟩ ∧ w.cell? ⟨b, off + k, none⟩ = some (.int .i64 l[k]) := by
  obtain ⟨b, off, e, hc⟩ := h k (by simpa using hk)
  exact ⟨b, off, e, by rw [hc]; simp [iV]⟩
theorem VAt.bool {w : World} {ao : Option Addr} {l : List Bool} (h : VAt w ao (l.map bV)) (k : Nat) (hk : k < l.length) : ∃ b off, ao = some ⟨b, off, none⟩ ∧ w.cell? ⟨b, off + k, none⟩ = some (.bool (l.getD k false)) := by
  obtain ⟨b, off, e, hc⟩ := h k (by simpa using hk)
  exact ⟨b, off, e, by rw [hc, List.getD_eq_getElem?_getD, List.getElem?_eq_getElem hk]; simp [bV]⟩

/-- The slice v of one-cell elements, of the call's own, holds the values vs. -/
def Ow (w : World) (B : Nat) (e : TypeId) (v : Value) (vs : List Value) : Prop := w.ownsRow B e 1 v vs.length vs
theorem Ow.nil (w : World) (B : Nat) (e : TypeId) : Ow w B e (.slice none 0 0) [] := World.ownsRow_nil _ _ _ _
theorem Ow.alloc {w : World} {B : Nat} {e : TypeId} {v : Value} {l : List Value} (h : Ow w B e v l) (o : Obj) : Ow (w.alloc o) B e v l := World.ownsRow.alloc h o
theorem Ow.lt {w : World} {B : Nat} {e : TypeId} {v : Value} {l : List Value} (h : Ow w B e v l) : ∀ k, v.ownBlock = some k → B ≤ k ∧ k < w.heap.size := World.ownsRow.lt h
theorem Ow.shape {w : World} {B : Nat} {e : TypeId} {v : Value} {l : List Value} (h : Ow w B e v l) : ∃ ao cap, v = .slice ao l.length cap ∧ l.length ≤ cap ∧ (ao = none → cap = 0) ∧ (∀ a, ao = some a → a.spot = none ∧ a.off = 0) := by
  rcases h.2 with ⟨rfl, h0⟩ | ⟨g, cap, cur, rfl, _, _, h1, _⟩
  · exact ⟨none, 0, by rw [h0], by omega, fun _ => rfl, fun a e => by cases e⟩
  · exact ⟨_, cap, rfl, h1, fun e => (by cases e), fun a e => by cases e; exact ⟨rfl, rfl⟩⟩
theorem Ow.block {w : World} {B : Nat} {e : TypeId} {ao : Option Addr} {n cap : Nat} {l : List Value} (h : Ow w B e (.slice ao n cap) l) : ∀ a, ao = some a → (Value.slice ao n cap).ownBlock = some a.block ∧ B ≤ a.block ∧ a.block < w.heap.size := fun a ea => by
  rcases h.2 with ⟨e0, h0⟩ | ⟨g, cap', cur, e0, hb, hg, _⟩
  · simp only [Value.slice.injEq] at e0
    rw [e0.1] at ea; cases ea
  · simp only [Value.slice.injEq] at e0
    obtain ⟨rfl, rfl, rfl⟩ := e0
    cases ea
    exact ⟨rfl, hb, lt_of_heapT hg⟩
theorem Ow.kept {w w' : World} {B : Nat} {e : TypeId} {v : Value} {l : List Value} (h : Ow w B e v l) (hk : ∀ k, v.ownBlock = some k → k < w.heap.size → w'.heap[k]? = w.heap[k]?) : Ow w' B e v l := by
  refine ⟨h.1, ?_⟩
  rcases h.2 with h0 | ⟨g, cap, cur, rfl, hb, hg, r⟩
  · exact .inl h0
  · exact .inr ⟨g, cap, cur, rfl, hb, (hk g (by simp [Value.ownBlock]) (lt_of_heapT hg)).trans hg, r⟩
theorem Ow.below {w w' : World} {B : Nat} {e : TypeId} {v : Value} {l : List Value} (h : Ow w B e v l) (hb : Below w.heap.size w w') : Ow w' B e v l := h.kept fun k _ hl => hb.block k hl
theorem Ow.frm {w w' : World} {B : Nat} {e : TypeId} {v : Value} {l : List Value} (h : Ow w B e v l) (hf : Frm S w w') (hn : ∀ k, v.ownBlock = some k → ¬ S k) : Ow w' B e v l := h.kept fun k e hl => hf.block k hl (hn k e)
theorem Ow.mono {w : World} {B B' : Nat} {e : TypeId} {v : Value} {l : List Value} (h : Ow w B e v l) (hB : B' ≤ B) : Ow w B' e v l := by
  refine ⟨h.1, ?_⟩
  rcases h.2 with h | ⟨g, cap, cur, hv, hb, r⟩
  · exact .inl h
  · exact .inr ⟨g, cap, cur, hv, Nat.le_trans hB hb, r⟩
theorem Ow.at {w : World} {B : Nat} {e : TypeId} {ao : Option Addr} {n cap : Nat} {l : List Value} (h : Ow w B e (.slice ao n cap) l) (i : Nat) (hi : i < l.length) :
    ∃ g, ao = some ⟨g, 0, none⟩ ∧ w.cell? ⟨g, i, none⟩ = some l[i] ∧ w.frozen? ⟨g, i, none⟩ = false := by
  rcases h.2 with ⟨he, h0⟩ | ⟨g, cap', cur, he, _⟩
  · omega
  · simp only [Value.slice.injEq] at he
    obtain ⟨rfl, rfl, rfl⟩ := he
    refine ⟨g, rfl, ?_, World.ownsRow.frozenAt h i⟩
    rw [World.ownsRow.cellAt h i (by omega)]
    simp [hi]
theorem Ow.v {w : World} {B : Nat} {e : TypeId} {ao : Option Addr} {n cap : Nat} {l : List Value} (h : Ow w B e (.slice ao n cap) l) : VAt w ao l := fun k hk => by
  obtain ⟨g, e, hc, _⟩ := h.at k hk
  exact ⟨g, 0, e, by rw [Nat.zero_add]; exact hc⟩
theorem Ow.stored {w : World} {B g n cap : Nat} {e : TypeId} {l : List Value} (h : Ow w B e (.slice (some ⟨g, 0, none⟩) n cap) l) (i : Nat) (u : Value) : Ow (w.setCell ⟨g, i, none⟩ u) B e (.slice (some ⟨g, 0, none⟩) n cap) (l.set i u) := by
  have hn : n = l.length := by
    rcases h.2 with ⟨he, h0⟩ | ⟨g', cap', cur, he, _⟩
    · cases he
    · simp only [Value.slice.injEq] at he; exact he.2.1
  subst hn
  unfold Ow
  rw [List.length_set]
  exact (World.ownsRow.stored h i u).1
theorem Ow.other {w : World} {B : Nat} {e : TypeId} {v : Value} {l : List Value} (h : Ow w B e v l) {a : Addr} (ha : v.ownBlock ≠ some a.block) (u : Value) : Ow (w.setCell a u) B e v l := ownsRow_setCell_other h ha u
/-- No block of another type is the slice's. -/
theorem Ow.ne {w : World} {B : Nat} {e t : TypeId} {v : Value} {l : List Value} {b : Nat} {cs : Array Value} (h : Ow w B e v l) (hb : w.heap[b]? = some (.cells cs t)) (hne : e ≠ t) : v.ownBlock ≠ some b := by
  intro hk
  rcases h.2 with ⟨rfl, h0⟩ | ⟨g, cap, cur, rfl, _, hg, _⟩
  · simp [Value.ownBlock] at hk
  · simp [Value.ownBlock] at hk
    subst hk
    have := hg.symm.trans hb
    simp at this
    exact hne this.2
theorem infoV {P : Program} {e : TypeId} {z : Value} {a b : Nat} (h : (P.info? e).map (fun i => (i.zero, i.size, i.bytes)) = some (some z, a, b)) : ∃ i, P.info? e = some i ∧ i.zero = some z ∧ i.size = a ∧ i.bytes = b := by
  obtain ⟨i, hi, hb⟩ := Option.map_eq_some_iff.1 h
  simp only [Prod.mk.injEq] at hb
  exact ⟨i, hi, hb.1, hb.2.1, hb.2.2⟩
theorem Frm.ofGrewT {a b : World} {u v : Value} (h : Grew a b u v) : Frm (fun k => u.ownBlock = some k) a b :=
  ⟨h.grown.os, h.grown.tape, h.grown.output, h.grown.size, fun k hk hn => h.grown.block k hk (fun e => hn e.symm)⟩

/-- append(s, u), u of one cell, laid right ahead. -/
theorem append_u (W : World) {ops : Array Oper} {rest : List Oper} {o : Oper} {a : Act} {Q : Exit → Act → World → Prop} (hgd : o.guard = none) (s x : Operand) (t e : TypeId) (z : Value) (bytes : Nat)
    (ht : Tryd.prog.underlying t = some (.slice e)) (hi : (Tryd.prog.info? e).map (fun i => (i.zero, i.size, i.bytes)) = some (some z, 1, bytes)) (hzs : z.cells.size = 1)
    (ho : o.op = .call { callee := .builtin .append, args := #[s, x], argTypes := #[t, t] })
    (B : Nat) (v : Value) (l : List Value) (hs : a.eval s = v) (u : Value) (hu : u.oneCell' = true) (g : Nat) (hx : a.eval x = .slice (some ⟨g, 0, none⟩) 1 1)
    (hg : g = W.heap.size) (hown : Ow W B e v l) (hm : l.length + 1 ≤ 9223372036854775807) (hlen : (l.length + 1) * bytes ≤ 140737488355328) (hB : B ≤ W.heap.size)
    (h : ∀ v' w', Ow w' B e v' (l ++ [u]) → Grew W w' v v' → wpList Tryd.prog ops Q rest (a.put o.dst v') w') : wpList Tryd.prog ops Q (o :: rest) a (W.alloc (.cells #[u] e)) := by
  obtain ⟨i0, hi, hz0, hz1, hz2⟩ := infoV hi
  subst hg
  refine wpList_append_grew _ hgd s x t ho B e i0 z 1 bytes ht hi hz0 hz1 hz2 hzs (by decide) v l.length l hs (hown.alloc _) ⟨W.heap.size, 0, none⟩ 1 1 [u] hx rfl (cells_new _ _ _) (by simp [hu]) (by unfold maxLen; omega) hlen (by simp; omega) ?_
  intro v' w' h1 h2 _
  refine h v' w' ?_ h2.ofAlloc
  unfold Ow
  rw [List.length_append]
  exact h1
/-- append(s, x...), x whatever slice. -/
theorem append_vs (W : World) {ops : Array Oper} {rest : List Oper} {o : Oper} {a : Act} {Q : Exit → Act → World → Prop} (hgd : o.guard = none) (s x : Operand) (t e : TypeId) (z : Value) (bytes : Nat)
    (ht : Tryd.prog.underlying t = some (.slice e)) (hi : (Tryd.prog.info? e).map (fun i => (i.zero, i.size, i.bytes)) = some (some z, 1, bytes)) (hzs : z.cells.size = 1)
    (ho : o.op = .call { callee := .builtin .append, args := #[s, x], argTypes := #[t, t] })
    (B : Nat) (v : Value) (l : List Value) (hs : a.eval s = v) (hown : Ow W B e v l) (ao : Option Addr) (n c : Nat) (vs : List Value) (hx : a.eval x = .slice ao n c) (hn : vs.length = n) (hnil : ao = none → c = 0 ∧ n = 0) (hp : VAt W ao vs) (h1 : ∀ u ∈ vs, u.oneCell' = true)
    (hm : l.length + n ≤ 9223372036854775807) (hlen : (l.length + n) * bytes ≤ 140737488355328) (hB : B ≤ W.heap.size)
    (h : ∀ v' w', Ow w' B e v' (l ++ vs) → Grew W w' v v' → (v ≠ .slice none 0 0 → v' ≠ .slice none 0 0) → wpList Tryd.prog ops Q rest (a.put o.dst v') w') : wpList Tryd.prog ops Q (o :: rest) a W := by
  obtain ⟨i0, hi, hz0, hz1, hz2⟩ := infoV hi
  subst hn
  cases ao with
  | none =>
    obtain ⟨rfl, h0⟩ := hnil rfl
    obtain rfl : vs = [] := List.length_eq_zero_iff.1 h0
    refine wpList_plain hgd fun K hK => ?_
    have hrun := run_append_owned_none (P := Tryd.prog) (w := W) B t o.type e i0 1 ht hi v l.length l hown
    unfold Oper.wp execOp
    simp only [ho, resolve, invoke, builtin, Sem.run_bind, Sem.run_pure, Result.andThen_ok, List.map_toArray, List.map_cons, List.map_nil, hs, hx, List.length_nil, hrun]
    exact hK _ _ (h v W (by rw [List.append_nil]; exact hown) (Grew.refl _ _) id)
  | some ad =>
    refine wpList_append_grew _ hgd s x t ho B e i0 z 1 bytes ht hi hz0 hz1 hz2 hzs (by decide) v l.length l hs hown ad vs.length c vs hx (by simp) hp.news h1 (by unfold maxLen; omega) hlen hB ?_
    intro v' w' h2 h3 h4
    refine h v' w' ?_ h3 fun hne e => hne (h4.1 e).1
    unfold Ow
    rw [List.length_append]
    exact h2
theorem info_int : (Tryd.prog.info? 3).map (fun i => (i.zero, i.size, i.bytes)) = some (some (.int .i64 0), 1, 8) := by kernel_rfl
theorem info_bool : (Tryd.prog.info? 4).map (fun i => (i.zero, i.size, i.bytes)) = some (some (.bool false), 1, 1) := by kernel_rfl
theorem make_bool (w : World) (n : Nat) (h : n ≤ 140737488355328) : ∃ w', (Instr.makeSlice 55 (.int .i64 (n : Int)) (.int .i64 (n : Int))).run Tryd.prog w = .ok (.slice (some ⟨w.heap.size, 0, none⟩) n n) w' ∧ Ow w' w.heap.size 4 (.slice (some ⟨w.heap.size, 0, none⟩) n n) (List.replicate n (.bool false)) ∧ Below w.heap.size w w' := by
  obtain ⟨i0, hi, hz0, hz1, hz2⟩ := infoV info_bool
  obtain ⟨w', h1, h2, h3⟩ := run_make_full (P := Tryd.prog) w w.heap.size 55 4 i0 (.bool false) 1 Tryd.underlying55 hi hz0 hz1 .i64 .i64 n (by rw [hz2]; omega) (by unfold maxLen; omega) (Nat.le_refl _)
  refine ⟨w', h1, ?_, (Below.refl _ _).grown h3 (Nat.le_refl _) (fun k hk => by cases hk)⟩
  have e : (madeCells (Value.bool false).cells (n * 1)).toList = List.replicate n (.bool false) := by rw [Nat.mul_one]; exact toList_madeCells_one _ _
  rw [e] at h2
  unfold Ow
  rw [List.length_replicate]
  exact h2
end Go.Proofs.YtelhgjepjieocaaDoor
