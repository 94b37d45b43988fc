import Derived.Test.YtcdfbbjakkmmoaaChecked
import Derived.WalkKit
import Derived.WalkSpells
import Derived.Defers
import Derived.Laws.Pointers
import Derived.Laws.LoneSync
import Derived.RegionTactic
import Derived.RegionCalls
import Derived.Laws.Rows
import Derived.Conc.EventLaws
import Derived.KernelRfl
import Derived.Laws.NewBlocks
import Derived.Conc.LoneCalls
import Derived.Conc.LoneSelect
import Derived.LaidEqlPtr
import Derived.WalkLawsBesides
import Derived.Deep.Light
/- Layer 2 (watch): a watch in memory, New. -/
namespace Go.Proofs.Ytcdfbbjakkmmoaa
open Go.RowKit Go.Conc
set_option linter.unusedVariables false

/-- The watch's channel is closed in place. -/
def shut (w : World) (c : Nat) : World := { w with heap := w.heap.setIfInBounds c (.chan 0 #[] true 0 0 false) }
theorem shut_other (w : World) (c k : Nat) (h : k ≠ c) : (shut w c).heap[k]? = w.heap[k]? := by simp [shut, Array.getElem?_setIfInBounds_ne (Ne.symm h)]
theorem shut_same (w : World) (c : Nat) (h : c < w.heap.size) : (shut w c).heap[c]? = some (.chan 0 #[] true 0 0 false) := by simp [shut, h]
theorem shut_size (w : World) (c : Nat) : (shut w c).heap.size = w.heap.size := by simp [shut]
theorem shut_cell (w : World) (c : Nat) (a : Addr) (h : a.block ≠ c) : (shut w c).cell? a = w.cell? a := World.cell?_of_block (shut_other w c _ h)
theorem shut_frozen (w : World) (c : Nat) (a : Addr) (h : a.block ≠ c) : (shut w c).frozen? a = w.frozen? a := World.frozen?_of_block (shut_other w c _ h)
/-! ### A watch in memory -/

def wCells (c : Nat) (f : Bool) : Array Value := #[.chan (some c), .int .u32 (if f then 1 else 0), .int .i32 0, .int .u32 0]

/-- The watch at block b, with its channel at block c: is it fired? -/
structure WAt (w : World) (b c : Nat) (f : Bool) : Prop where
  blk : w.heap[b]? = some (.cells (wCells c f) 117)
  chn : w.heap[c]? = some (.chan 0 #[] f 0 0 false)

/-- From w to w' no block was written but those of the list; new ones may have been made. -/
structure Touched (l : List Nat) (w w' : World) : Prop where
  os : w'.os = w.os
  tape : w'.tape = w.tape
  output : w'.output = w.output
  size : w.heap.size ≤ w'.heap.size
  block : ∀ k, k < w.heap.size → k ∉ l → w'.heap[k]? = w.heap[k]?

theorem Touched.refl (l : List Nat) (w : World) : Touched l w w := ⟨rfl, rfl, rfl, Nat.le_refl _, fun _ _ _ => rfl⟩
theorem Touched.trans {l : List Nat} {a b c : World} (h : Touched l a b) (k : Touched l b c) : Touched l a c :=
  ⟨k.os.trans h.os, k.tape.trans h.tape, k.output.trans h.output, Nat.le_trans h.size k.size, fun i hi hl => (k.block i (Nat.lt_of_lt_of_le hi h.size) hl).trans (h.block i hi hl)⟩
theorem Touched.alloc {l : List Nat} {a b : World} (h : Touched l a b) (o : Obj) : Touched l a (b.alloc o) :=
  h.trans ⟨rfl, rfl, rfl, by simp [World.size_alloc], fun k hk _ => Below.heap_alloc _ _ _ hk⟩
theorem Touched.drew {l : List Nat} {a b : World} (h : Touched l a b) : Touched l a b.drew := ⟨h.os, h.tape, h.output, h.size, h.block⟩
theorem Touched.setCell {l : List Nat} {a b : World} (h : Touched l a b) (p : Addr) (v : Value) (hp : p.block ∈ l ∨ a.heap.size ≤ p.block) : Touched l a (b.setCell p v) :=
  ⟨h.os, h.tape, h.output, by simpa using h.size, fun k hk hl => by
    rw [heap_setCell_other _ _ _ _ (fun e => by subst e; rcases hp with hp | hp; exact hl hp; omega)]
    exact h.block k hk hl⟩
theorem Touched.shut {l : List Nat} {a b : World} (h : Touched l a b) (c : Nat) (hc : c ∈ l) : Touched l a (shut b c) :=
  ⟨h.os, h.tape, h.output, by rw [shut_size]; exact h.size, fun k hk hl => by rw [shut_other _ _ _ (fun e => by subst e; exact hl hc)]; exact h.block k hk hl⟩
theorem Touched.toBelow {l : List Nat} {a b : World} (h : Touched l a b) {B : Nat} (hB : B ≤ a.heap.size) (hl : ∀ k ∈ l, B ≤ k) : Below B a b :=
  ⟨h.os, h.tape, h.output, h.size, fun k hk => h.block k (by omega) (fun hm => by have := hl k hm; omega)⟩
theorem Touched.ofBelow {a b : World} (h : Below a.heap.size a b) (l : List Nat) : Touched l a b := ⟨h.os, h.tape, h.output, h.size, fun k hk _ => h.block k hk⟩

theorem lt_of_heap {w : World} {b : Nat} {o : Obj} (h : w.heap[b]? = some o) : b < w.heap.size := by
  rcases Nat.lt_or_ge b w.heap.size with h' | h'
  · exact h'
  · rw [Array.getElem?_eq_none h'] at h; cases h
theorem WAt.ltb {w : World} {b c : Nat} {f : Bool} (h : WAt w b c f) : b < w.heap.size := lt_of_heap h.blk
theorem WAt.ltc {w : World} {b c : Nat} {f : Bool} (h : WAt w b c f) : c < w.heap.size := lt_of_heap h.chn
theorem WAt.ne {w : World} {b c : Nat} {f : Bool} (h : WAt w b c f) {b' c' : Nat} {f' : Bool} (h' : WAt w b' c' f') : b ≠ c' := by
  intro e
  subst e
  have := h.blk.symm.trans h'.chn
  cases this
theorem WAt.chan_eq {w : World} {b c c' : Nat} {f f' : Bool} (h : WAt w b c f) (h' : WAt w b c' f') : c = c' ∧ f = f' := by
  have := h.blk.symm.trans h'.blk
  simp only [Option.some.injEq, Obj.cells.injEq, wCells, Array.mk.injEq, List.cons.injEq, Value.chan.injEq, Value.int.injEq] at this
  refine ⟨this.1.1, ?_⟩
  have h2 := this.1.2.1.2
  cases f <;> cases f' <;> simp at h2 ⊢
theorem WAt.touched {w w' : World} {l : List Nat} {b c : Nat} {f : Bool} (h : WAt w b c f) (ht : Touched l w w') (hb : b ∉ l) (hc : c ∉ l) : WAt w' b c f :=
  ⟨(ht.block b h.ltb hb).trans h.blk, (ht.block c h.ltc hc).trans h.chn⟩
theorem WAt.below {w w' : World} {b c : Nat} {f : Bool} (h : WAt w b c f) (ht : Below w.heap.size w w') : WAt w' b c f :=
  ⟨(ht.block b h.ltb).trans h.blk, (ht.block c h.ltc).trans h.chn⟩
theorem cell_of_blk {w : World} {b i : Nat} {cs : Array Value} {t : TypeId} (h : w.heap[b]? = some (.cells cs t)) : w.cell? ⟨b, i, none⟩ = cs[i]? := by simp [World.cell?, h]
theorem frozen_of_blk {w : World} {b i : Nat} {cs : Array Value} {t : TypeId} (h : w.heap[b]? = some (.cells cs t)) : w.frozen? ⟨b, i, none⟩ = false := by simp [World.frozen?, h]
theorem setCell_blk {w : World} {b i : Nat} {cs : Array Value} {t : TypeId} (h : w.heap[b]? = some (.cells cs t)) (v : Value) : (w.setCell ⟨b, i, none⟩ v).heap[b]? = some (.cells (cs.setIfInBounds i v) t) := heap_setCell_same w b i cs t v h

theorem Touched.weaken {l m : List Nat} {a b : World} (h : Touched l a b) (hl : ∀ k ∈ l, k ∈ m) : Touched m a b := ⟨h.os, h.tape, h.output, h.size, fun k hk hm => h.block k hk (fun x => hm (hl k x))⟩

theorem mkChan0 (w : World) : (Instr.makeChan 103 (.int .i64 0)).run Try.prog w = .ok (.chan (some w.heap.size)) (w.alloc (.chan 0 #[] false 0 0 false)) := by
  have h : (Try.prog.info? 104).map (·.bytes) = some 0 := by kernel_rfl
  obtain ⟨i, hi, hb⟩ := Option.map_eq_some_iff.1 h
  simpa using run_makeChan (P := Try.prog) (w := w) Try.underlying103 hi .i64 0 (by omega) (by rw [hb]; omega)

/-- New: a watch of its own that isn't fired. -/
theorem new_calls (w : World) : Calls Try.prog 52 #[] w fun e w' => e = .returned (.pointer (some ⟨w.heap.size + 1, 0, none⟩)) ∧ Below w.heap.size w w' ∧ w'.heap.size = w.heap.size + 2 ∧ WAt w' (w.heap.size + 1) w.heap.size false := by
  have hmc := mkChan0
  go_enter Try.func52, Try.ntmps52
  go_wp2
  go_ret
  refine ⟨rfl, ((Below.refl _ w).alloc (Nat.le_refl _) _).alloc (by simp [World.size_alloc]) _, by simp [World.size_alloc], ?_, ?_⟩
  · have := heap_alloc_new (w.alloc (.chan 0 #[] false 0 0 false)) (.cells (wCells w.heap.size false) 117)
    simp only [World.size_alloc] at this
    exact this
  · rw [Below.heap_alloc _ _ _ (by simp [World.size_alloc])]; exact heap_alloc_new w _
end Go.Proofs.Ytcdfbbjakkmmoaa

/- Plain definitions for layer 1 (keys): parts, validity, pieces, keys. -/
namespace Go.Proofs.Ytcdfbbjakkmmoaa
open Go.RowKit
set_option linter.unusedVariables false

/-- A part: kind, text, number. -/
structure Pt where
  k : Int
  t : ByteArray
  n : Int

def Pt.cells (p : Pt) : List Value := [.int .i64 p.k, .string p.t, .int .u64 p.n]
def Pt.val (p : Pt) : Value := .agg #[.int .i64 p.k, .string p.t, .int .u64 p.n]
def Pt.wf (p : Pt) : Prop := (-9223372036854775808 ≤ p.k ∧ p.k ≤ 9223372036854775807) ∧ (0 ≤ p.n ∧ p.n ≤ 18446744073709551615) ∧ p.t.size ≤ 140737488351232

def vldB (p : Pt) : Bool :=
  if p.k == 1 then p.n == 0 else if p.k == 2 then p.t.toList.isEmpty else p.k == 3 && (p.t.toList.isEmpty && (p.n == 0 || p.n == 1))

/-- The parts ps lie one behind the other at the address, three cells each. -/
def PartsAt (w : World) (ao : Option Addr) (ps : List Pt) : Prop :=
  ∀ i (p : Pt), ps[i]? = some p → ∃ b off, ao = some ⟨b, off, none⟩ ∧ w.cell? ⟨b, off + i * 3, none⟩ = some (.int .i64 p.k) ∧ w.cell? ⟨b, off + i * 3 + 1, none⟩ = some (.string p.t) ∧ w.cell? ⟨b, off + i * 3 + 2, none⟩ = some (.int .u64 p.n) ∧ p.wf

theorem PartsAt.below {w w' : World} {ao : Option Addr} {ps : List Pt} (h : PartsAt w ao ps) (hb : Below w.heap.size w w') : PartsAt w' ao ps := by
  intro i p hp
  obtain ⟨b, off, ha, h0, h1, h2, hw⟩ := h i p hp
  have hl : b < w.heap.size := World.block_lt_of_cell? w _ h0
  exact ⟨b, off, ha, by rw [hb.cell (by exact hl)]; exact h0, by rw [hb.cell (by exact hl)]; exact h1, by rw [hb.cell (by exact hl)]; exact h2, hw⟩

theorem ret_bool {a b : Bool} (h : a = b) : Ending.returned (.bool a) = .returned (.bool b) := by rw [h]

end Go.Proofs.Ytcdfbbjakkmmoaa
