/- Layer 14 (timers): timers in memory, in a heap's slice. -/
import Derived.Test.YtedhjdkhfndinaaChecked
import Derived.Test.YtedhjdkhfndinaaKOwn
import Derived.WalkKit
import Derived.WalkSpells
import Derived.Defers
import Derived.Laws.Pointers
import Derived.RegionTactic
import Derived.RegionCalls
import Derived.Laws.Rows
import Derived.KernelRfl
import Derived.Laws.NewBlocks
import Derived.BigQuiet
import Derived.Deep.QuietTactic
import Derived.BigRegion
namespace Go.Proofs.Ytedhjdkhfndinaa
open Go.RowKit
set_option linter.unusedVariables false

/-- From w to w' no old block was written but those of S. -/
structure Frm (S : Nat → Prop) (w w' : World) : Prop where
  os : w'.os = w.os
  tape : w'.tape = w.tape
  output : w'.output = w.output
  size : w.heap.size ≤ w'.heap.size
  block : ∀ k, k < w.heap.size → ¬ S k → w'.heap[k]? = w.heap[k]?

variable {S S' : Nat → Prop}
theorem Frm.refl (S : Nat → Prop) (w : World) : Frm S w w := ⟨rfl, rfl, rfl, Nat.le_refl _, fun _ _ _ => rfl⟩
theorem Frm.trans {a b c : World} (h : Frm S a b) (k : Frm S b c) : Frm S a c :=
  ⟨k.os.trans h.os, k.tape.trans h.tape, k.output.trans h.output, Nat.le_trans h.size k.size, fun i hi hl => (k.block i (Nat.lt_of_lt_of_le hi h.size) hl).trans (h.block i hi hl)⟩
theorem Frm.alloc {a b : World} (h : Frm S a b) (o : Obj) : Frm S a (b.alloc o) :=
  h.trans ⟨rfl, rfl, rfl, by simp [World.size_alloc], fun k hk _ => Below.heap_alloc _ _ _ hk⟩
theorem Frm.drew {a b : World} (h : Frm S a b) : Frm S a b.drew := ⟨h.os, h.tape, h.output, h.size, h.block⟩
theorem Frm.setCell {a b : World} (h : Frm S a b) (p : Addr) (v : Value) (hp : S p.block ∨ a.heap.size ≤ p.block) : Frm S a (b.setCell p v) :=
  ⟨h.os, h.tape, h.output, by simpa using h.size, fun k hk hl => by
    rw [heap_setCell_other _ _ _ _ (fun e => by subst e; rcases hp with hp | hp; exact hl hp; omega)]
    exact h.block k hk hl⟩
theorem Frm.weaken {a b : World} (h : Frm S a b) (hl : ∀ k, k < a.heap.size → S k → S' k) : Frm S' a b := ⟨h.os, h.tape, h.output, h.size, fun k hk hm => h.block k hk (fun x => hm (hl k hk x))⟩
theorem Frm.toBelow {a b : World} (h : Frm S a b) {B : Nat} (hB : B ≤ a.heap.size) (hl : ∀ k, S k → B ≤ k) : Below B a b :=
  ⟨h.os, h.tape, h.output, h.size, fun k hk => h.block k (by omega) (fun hm => by have := hl k hm; omega)⟩
theorem Frm.ofBelow {a b : World} (h : Below a.heap.size a b) (S : Nat → Prop) : Frm S a b := ⟨h.os, h.tape, h.output, h.size, fun k hk _ => h.block k hk⟩
theorem below_drawsT (w : World) (m : Nat) : Below w.heap.size w (w.drewN m) := by
  induction m with
  | zero => exact Below.refl _ _
  | succ m ih => exact ih.drew
theorem Frm.ofDraws (S : Nat → Prop) (w : World) (n : Nat) : Frm S w (w.drewN n) := Frm.ofBelow (below_drawsT w n) S

theorem lt_of_heapT {w : World} {b : Nat} {o : Obj} (h : w.heap[b]? = some o) : b < w.heap.size := by
  rcases Nat.lt_or_ge b w.heap.size with h' | h'
  · exact h'
  · rw [Array.getElem?_eq_none h'] at h; cases h
theorem cell_blkT {w : World} {b i : Nat} {cs : Array Value} {t : TypeId} (h : w.heap[b]? = some (.cells cs t)) : w.cell? ⟨b, i, none⟩ = cs[i]? := by simp [World.cell?, h]
theorem frozen_blkT {w : World} {b i : Nat} {cs : Array Value} {t : TypeId} (h : w.heap[b]? = some (.cells cs t)) : w.frozen? ⟨b, i, none⟩ = false := by simp [World.frozen?, h]

/-- A timer: its id, its time, when it was set, and the block in which it lies. -/
structure Tm where
  id : Int
  tm : Int
  turn : Int
  b : Nat
def ltT (x y : Tm) : Bool := if x.tm = y.tm then decide (x.turn < y.turn) else decide (x.tm < y.tm)
def tcell (x : Tm) (i : Nat) : Array Value := #[.int .i64 x.id, .int .u64 x.tm, .int .u64 x.turn, .int .i64 (i : Int)]
def ptrT (x : Tm) : Value := .pointer (some ⟨x.b, 0, none⟩)

/-- The slice v of pointers, of the call's own, holds these timers, each with its place. -/
structure PnAt (w : World) (v : Value) (L : List Tm) : Prop where
  pend : w.ownsRow 0 61 1 v L.length (L.map ptrT)
  tms : ∀ (i : Nat) (x : Tm), L[i]? = some x → w.heap[x.b]? = some (.cells (tcell x i) 64)

theorem PnAt.same {w w' : World} {v : Value} {L : List Tm} (h : PnAt w v L) (hv : ∀ k, v.ownBlock = some k → w'.heap[k]? = w.heap[k]?) (ht : ∀ x ∈ L, w'.heap[x.b]? = w.heap[x.b]?) : PnAt w' v L := by
  refine ⟨⟨h.pend.1, ?_⟩, fun i x hx => (ht x (List.mem_of_getElem? hx)).trans (h.tms i x hx)⟩
  rcases h.pend.2 with h0 | ⟨g, cap, cur, rfl, hb, hg, r⟩
  · exact .inl h0
  · exact .inr ⟨g, cap, cur, rfl, hb, (hv g (by simp [Value.ownBlock])).trans hg, r⟩
theorem PnAt.lt {w : World} {v : Value} {L : List Tm} (h : PnAt w v L) : ∀ k, v.ownBlock = some k → k < w.heap.size := fun k hk => (World.ownsRow.lt h.pend k hk).2
theorem PnAt.ltb {w : World} {v : Value} {L : List Tm} (h : PnAt w v L) : ∀ x ∈ L, x.b < w.heap.size := fun x hx => by
  obtain ⟨i, hi⟩ := List.mem_iff_getElem?.1 hx
  exact lt_of_heapT (h.tms i x hi)
theorem PnAt.frm {w w' : World} {v : Value} {L : List Tm} (h : PnAt w v L) (hf : Frm S w w') (hv : ∀ k, v.ownBlock = some k → ¬ S k) (ht : ∀ x ∈ L, ¬ S x.b) : PnAt w' v L :=
  h.same (fun k hk => hf.block k (h.lt k hk) (hv k hk)) (fun x hx => hf.block _ (h.ltb x hx) (ht x hx))
theorem PnAt.below {w w' : World} {v : Value} {L : List Tm} (h : PnAt w v L) (hb : Below w.heap.size w w') : PnAt w' v L :=
  h.same (fun k hk => hb.block k (h.lt k hk)) (fun x hx => hb.block _ (h.ltb x hx))
theorem PnAt.at {w : World} {v : Value} {L : List Tm} (h : PnAt w v L) (i : Nat) (hi : i < L.length) : ∃ g cap, v = .slice (some ⟨g, 0, none⟩) L.length cap ∧ cap ≤ maxLen ∧ L.length ≤ cap := by
  rcases h.pend.2 with ⟨he, h0⟩ | ⟨g, cap, cur, rfl, _, _, h1, h2, _⟩
  · omega
  · exact ⟨g, cap, rfl, h2, h1⟩
theorem PnAt.cell {w : World} {g n cap : Nat} {L : List Tm} (h : PnAt w (.slice (some ⟨g, 0, none⟩) n cap) L) (i : Nat) (hi : i < L.length) : w.cell? ⟨g, i, none⟩ = some (ptrT L[i]) := by
  have hn : n = L.length := by
    rcases h.pend.2 with ⟨he, h0⟩ | ⟨g', cap', cur, he, _⟩
    · cases he
    · simp only [Value.slice.injEq] at he; exact he.2.1
  subst hn
  rw [World.ownsRow.cellAt h.pend i (by omega)]
  simp [hi]
theorem PnAt.inj {w : World} {v : Value} {L : List Tm} (h : PnAt w v L) {i j : Nat} {x y : Tm} (hi : L[i]? = some x) (hj : L[j]? = some y) (he : x.b = y.b) : i = j := by
  have := (h.tms i x hi).symm.trans ((congrArg (fun b => w.heap[b]?) he).trans (h.tms j y hj))
  simp [tcell] at this
  omega
/-- No block of the slice is a timer's. -/
theorem PnAt.apart {w : World} {v : Value} {L : List Tm} (h : PnAt w v L) {x : Tm} (hx : x ∈ L) : v.ownBlock ≠ some x.b := by
  intro e
  obtain ⟨i, hi⟩ := List.mem_iff_getElem?.1 hx
  rcases h.pend.2 with ⟨rfl, h0⟩ | ⟨g, cap, cur, rfl, hb, hg, _⟩
  · cases e
  · simp [Value.ownBlock] at e
    subst e
    have := hg.symm.trans (h.tms i x hi)
    simp at this
end Go.Proofs.Ytedhjdkhfndinaa
