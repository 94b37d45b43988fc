import Derived.WalkKit
import Derived.WalkSpells
import Derived.WalkLawsBesides
import Derived.Deep.Light
import Derived.Lib.SplitLaws
import Derived.Test.YthgcnmilaifkoaaGreatDoorChecked
import Derived.Below
import Derived.Deep.QuietTactic
import Derived.BigQuiet
import Derived.MapKept
import Derived.Deep.DeepCutAuto
import Derived.Deep.CutRange
import Derived.Deep.RegionHeld3
import Derived.Deep.RegionHeldLaw
import Derived.Deep.AppendLies
import Derived.Deep.RegionLaw
import Derived.Defers
import Derived.RegionTactic
import Derived.BigRegion
import Derived.Lib.IndexLaws
import Derived.Lib.IndexBytes
import Derived.Laws.ResultCell
import Derived.Laws.Rows
import Derived.Lib.BufferMore
/- Plain definitions for layer 1 (keys): parts, validity, pieces, keys. -/
namespace Go.Proofs.YthgcnmilaifkoaaGreatDoor
open Go.RowKit
set_option linter.unusedVariables false

theorem ret_bool {a b : Bool} (h : a = b) : Ending.returned (.bool a) = .returned (.bool b) := by rw [h]

end Go.Proofs.YthgcnmilaifkoaaGreatDoor

/- Slices that a call has made itself, and what stays as it was while they grow. -/
namespace Go.Proofs.YthgcnmilaifkoaaGreatDoor
open Go.RowKit
set_option linter.unusedVariables false

/-- From w to w' new memory was made and the slice v became v': no old block but v's own was written; v' lies in v's block or in a new one. -/
structure Grew (w w' : World) (v v' : Value) : Prop where
 grown : w.grownBy w' v.ownBlock
 place : ∀ k, v'.ownBlock = some k → v.ownBlock = some k ∨ w.heap.size ≤ k

theorem grownBy_trans {a b c : World} {r s : Option Nat} (h : a.grownBy b r) (k : b.grownBy c s) (hs : ∀ i, s = some i → r = some i ∨ a.heap.size ≤ i) : a.grownBy c r :=
 ⟨k.os.trans h.os, k.tape.trans h.tape, k.output.trans h.output, Nat.le_trans h.size k.size, fun i hi hr =>
  (k.block i (Nat.lt_of_lt_of_le hi h.size) (fun e => by rcases hs i e.symm with e' | e'; exact hr e'.symm; omega)).trans (h.block i hi hr)⟩

theorem Grew.refl (w : World) (v : Value) : Grew w w v v := ⟨World.grownBy.refl _ _, fun _ h => .inl h⟩
theorem Grew.trans {a b c : World} {u v x : Value} (h : Grew a b u v) (k : Grew b c v x) : Grew a c u x :=
 ⟨grownBy_trans h.grown k.grown h.place, fun i hi => by
  rcases k.place i hi with e | e
  ·exact h.place i e
  ·exact .inr (Nat.le_trans h.grown.size e)⟩
theorem Grew.alloc {a b : World} {u v : Value} (h : Grew a b u v) (o : Obj) : Grew a (b.alloc o) u v :=
 h.trans ⟨World.grownBy_alloc b o _, fun _ h => .inl h⟩
theorem Grew.below {a b c : World} {u v : Value} (h : Grew a b u v) (k : Below b.heap.size b c) : Grew a c u v :=
 h.trans ⟨⟨k.os, k.tape, k.output, k.size, fun i hi _ => k.block i hi⟩, fun _ h => .inl h⟩
theorem Grew.ofAlloc {a c : World} {u v : Value} {o : Obj} (h : Grew (a.alloc o) c u v) : Grew a c u v := ((Grew.refl a u).alloc o).trans h
theorem Grew.toBelow {a b : World} {u v : Value} {B : Nat} (h : Grew a b u v) (hB : B ≤ a.heap.size) (hu : ∀ k, u.ownBlock = some k → B ≤ k) : Below B a b :=
 (Below.refl B a).grown h.grown hB hu
theorem Grew.cell {a b : World} {u v : Value} (h : Grew a b u v) {p : Addr} {x : Value} (hc : a.cell? p = some x) (hne : some p.block ≠ u.ownBlock) : b.cell? p = some x := h.grown.cell hc hne
theorem Grew.size {a b : World} {u v : Value} (h : Grew a b u v) : a.heap.size ≤ b.heap.size := h.grown.size

section
variable {P : Program} (w : World)

theorem run_append_grew (base : Nat) (t ty e : TypeId) (i : TypeInfo) (z : Value) (size bytes : Nat) (ht : P.underlying t = some (.slice e)) (hi : P.info? e = some i) (hz : i.zero = some z)
  (hsize : i.size = size) (hby : i.bytes = bytes) (hzs : z.cells.size = size) (hsz : 0 < size)
  (v : Value) (n : Nat) (xs : List Value) (hown : w.ownsRow base e size v n xs)
  (a : Addr) (m c : Nat) (news : List Value) (hl : news.length = m * size) (hnews : ∀ j u, news[j]? = some u → w.cell? (a.add j) = some u) (h1 : ∀ u ∈ news, u.oneCell' = true)
  (h63 : n + m ≤ maxLen) (hbytes : (n + m) * bytes ≤ 140737488355328) (hbase : base ≤ w.heap.size) :
  ∃ v' w', (Builtin.append_ #[t, t] ty #[v, .slice (some a) m c]).run P w = .ok v' w' ∧ w'.ownsRow base e size v' (n + m) (xs ++ news) ∧ Grew w w' v v' ∧ (v' = .slice none 0 0 ↔ v = .slice none 0 0 ∧ m = 0) := by
 obtain ⟨v', w', hr, ho, hg, hn⟩ := run_append_own (P := P) w base t ty e i z size bytes ht hi hz hsize hby hzs hsz v n xs hown a m c news hl hnews h1 h63 hbytes hbase
 refine ⟨v', w', hr, ho, ⟨hg, ?_⟩, hn⟩
 intro k hk
 have hsmall : n + m ≤ 9223372036854775807 := by simp only [maxLen] at h63; omega
 subst hsize
 subst hby
 rcases hown.2 with ⟨rfl, rfl⟩ | ⟨g, cap, cur, rfl, hbg, hgg, hnc, hcm, hcs, htake⟩
 ·by_cases hm : m = 0
  ·have := hn.2 ⟨rfl, hm⟩; subst this; simp [Value.ownBlock] at hk
  ·have hr2 := run_append_nil (P := P) w t ty e i z ht hi hz a m c news hl hnews (by omega) (by omega) (by simp only [Nat.zero_add] at hbytes; omega)
   rw [hr] at hr2
   injection hr2 with e1 e2
   subst e1
   simp [Value.ownBlock] at hk
   right; omega
 ·by_cases hroom : n + m ≤ cap
  ·have hfit : n * i.size + news.length ≤ cur.size := by rw [hl, hcs, ← Nat.add_mul]; exact Nat.mul_le_mul_right _ hroom
   have hr2 := run_append_room (P := P) w t ty e i ht hi g n cap cur hgg a m c news hl hnews h1 hroom hfit
   rw [hr] at hr2
   injection hr2 with e1 e2
   subst e1
   left; exact hk
  ·have holds : ∀ j u, xs[j]? = some u → w.cell? ((⟨g, 0, none⟩ : Addr).add j) = some u := hown.cells (g := g) rfl
   have hr2 := run_append_grow (P := P) w t ty e i z ht hi hz ⟨g, 0, none⟩ n cap xs hown.1 holds a m c news hl hnews (by omega) (by omega) (growslice_fits (by omega) hbytes)
   rw [hr] at hr2
   injection hr2 with e1 e2
   subst e1
   simp [Value.ownBlock] at hk
   right; omega

theorem wpList_append_grew {ops : Array Oper} {rest : List Oper} {o : Oper} {a : Act} {Q : Exit → Act → World → Prop} (hgd : o.guard = none) (s x : Operand) (t : TypeId)
  (ho : o.op = .call { callee := .builtin .append, args := #[s, x], argTypes := #[t, t] })
  (base : Nat) (e : TypeId) (i : TypeInfo) (z : Value) (size bytes : Nat) (ht : P.underlying t = some (.slice e)) (hi : P.info? e = some i) (hz : i.zero = some z)
  (hsize : i.size = size) (hby : i.bytes = bytes) (hzs : z.cells.size = size) (hsz : 0 < size)
  (v : Value) (n : Nat) (xs : List Value) (hs : a.eval s = v) (hown : w.ownsRow base e size v n xs)
  (ad : Addr) (m c : Nat) (news : List Value) (hx : a.eval x = .slice (some ad) m c) (hl : news.length = m * size) (hnews : ∀ j u, news[j]? = some u → w.cell? (ad.add j) = some u) (h1 : ∀ u ∈ news, u.oneCell' = true)
  (h63 : n + m ≤ maxLen) (hbytes : (n + m) * bytes ≤ 140737488355328) (hbase : base ≤ w.heap.size)
  (h : ∀ v' w', w'.ownsRow base e size v' (n + m) (xs ++ news) → Grew w w' v v' → (v' = .slice none 0 0 ↔ v = .slice none 0 0 ∧ m = 0) → wpList P ops Q rest (a.put o.dst v') w') : wpList P ops Q (o :: rest) a w :=
 wpList_plain hgd fun K hK => by
  obtain ⟨v', w', hr, h2, h3, h4⟩ := run_append_grew (P := P) w base t o.type e i z size bytes ht hi hz hsize hby hzs hsz v n xs hown ad m c news hl hnews h1 h63 hbytes hbase
  unfold Oper.wp execOp
  simp only [ho, resolve, invoke, builtin, Sem.run_bind, Sem.run_pure, Result.andThen_ok, List.map_toArray, List.map_cons, List.map_nil, hs, hx, hr]
  exact hK _ _ (h v' w' h2 h3 h4)
end

/-- Bytes as cells. -/
def bs (l : List UInt8) : List Value := l.map fun c => .int .u8 (c.toNat : Int)
theorem bs_length (l : List UInt8) : (bs l).length = l.length := by simp [bs]
theorem bs_append (l m : List UInt8) : bs (l ++ m) = bs l ++ bs m := by simp [bs]
theorem bs_one (l : List UInt8) : ∀ u ∈ bs l, u.oneCell' = true := by
 intro u hu
 obtain ⟨c, _, rfl⟩ := List.mem_map.1 hu
 rfl

/-- The slice v, made by the call itself, holds the bytes l. -/
def Own (w : World) (B : Nat) (v : Value) (l : List UInt8) : Prop := w.ownsRow B 5 1 v l.length (bs l)

theorem Own.nil (w : World) (B : Nat) : Own w B (.slice none 0 0) [] := World.ownsRow_nil _ _ _ _
theorem Own.alloc {w : World} {B : Nat} {v : Value} {l : List UInt8} (h : Own w B v l) (o : Obj) : Own (w.alloc o) B v l := World.ownsRow.alloc h o
theorem Own.lt {w : World} {B : Nat} {v : Value} {l : List UInt8} (h : Own w B v l) : ∀ k, v.ownBlock = some k → B ≤ k ∧ k < w.heap.size := World.ownsRow.lt h
theorem Own.shape {w : World} {B : Nat} {v : Value} {l : List UInt8} (h : Own w B v l) : ∃ ao cap, v = .slice ao l.length cap := by
 rcases h.2 with ⟨rfl, h0⟩ | ⟨g, cap, cur, rfl, _⟩
 ·exact ⟨none, 0, by rw [h0]⟩
 ·exact ⟨_, _, rfl⟩
theorem Own.below {w w' : World} {B : Nat} {v : Value} {l : List UInt8} (h : Own w B v l) (hb : Below w.heap.size w w') : Own w' B v l :=
 World.ownsRow.kept (row := none) h ⟨hb.os, hb.tape, hb.output, hb.size, fun k hk _ => hb.block k hk⟩ (by cases v.ownBlock <;> simp)
theorem Own.mono {w : World} {B B' : Nat} {v : Value} {l : List UInt8} (h : Own w B v l) (hB : B' ≤ B) : Own w B' v l := by
 refine ⟨h.1, ?_⟩
 rcases h.2 with h | ⟨g, cap, cur, hv, hb, r⟩
 ·exact .inl h
 ·exact .inr ⟨g, cap, cur, hv, Nat.le_trans hB hb, r⟩
theorem Own.toBelow {w w' : World} {B : Nat} {v v' : Value} {l : List UInt8} (h : Own w B v l) (hB : B ≤ w.heap.size) (hg : Grew w w' v v') : Below B w w' := hg.toBelow hB fun k hk => (h.lt k hk).1

theorem Own.at {w : World} {B g n cap : Nat} {l : List UInt8} (h : Own w B (.slice (some ⟨g, 0, none⟩) n cap) l) (hn : l.length = n) (i : Nat) (hi : i < n) :
  w.cell? ⟨g, i, none⟩ = some (.int .u8 ((l.getD i 0).toNat : Int)) ∧ w.frozen? ⟨g, i, none⟩ = false := by
 subst hn
 refine ⟨?_, World.ownsRow.frozenAt h i⟩
 rw [World.ownsRow.cellAt h i (by omega)]
 simp [bs, hi]
theorem Own.stored {w : World} {B g n cap : Nat} {l : List UInt8} (h : Own w B (.slice (some ⟨g, 0, none⟩) n cap) l) (hn : l.length = n) (i : Nat) (c : UInt8) :
  Own (w.setCell ⟨g, i, none⟩ (.int .u8 (c.toNat : Int))) B (.slice (some ⟨g, 0, none⟩) n cap) (l.set i c) := by
 subst hn
 have := (World.ownsRow.stored h i (.int .u8 (c.toNat : Int))).1
 unfold Own
 rw [List.length_set]
 have e : bs (l.set i c) = (bs l).set i (.int .u8 (c.toNat : Int)) := by simp [bs, List.map_set]
 rw [e]
 exact this
theorem cells_new (w : World) (xs : List Value) (t : TypeId) : ∀ j u, xs[j]? = some u → (w.alloc (.cells xs.toArray t)).cell? ((⟨w.heap.size, 0, none⟩ : Addr).add j) = some u := by
 intro j u hj
 have hadd : (⟨w.heap.size, 0, none⟩ : Addr).add j = ⟨w.heap.size, j, none⟩ := by unfold Addr.add; split <;> simp_all
 rw [hadd, World.cell?_alloc_mark]
 simpa using hj

end Go.Proofs.YthgcnmilaifkoaaGreatDoor

/- Layer 6 (schema): plain definitions: names, words, lines, what reading a text comes to. -/
namespace Go.Proofs.YthgcnmilaifkoaaGreatDoor
open Go.RowKit
set_option linter.unusedVariables false

/-- The pieces of s between the bytes c. -/
def wsOf (s : ByteArray) (c : UInt8) : List ByteArray := Lib.splitB ⟨#[c]⟩ 0 (Lib.countB s ⟨#[c]⟩) s

end Go.Proofs.YthgcnmilaifkoaaGreatDoor

/- Layer 6 (schema): memory, words, lines: what names no type of a schema either. -/
namespace Go.Proofs.YthgcnmilaifkoaaGreatDoor
open Go.RowKit
set_option linter.unusedVariables false
/-- A slice of the call's own: its block has the elements' type. -/
theorem row_typed {w : World} {B : Nat} {e : TypeId} {size : Nat} {v : Value} {n : Nat} {l : List Value} (h : w.ownsRow B e size v n l) : ∀ k, v.ownBlock = some k → ∃ cs, w.heap[k]? = some (.cells cs e) := by
 intro k hk
 rcases h.2 with ⟨rfl, h0⟩ | ⟨g, cap, cur, rfl, hb, hg, _⟩
 ·simp [Value.ownBlock] at hk
 ·simp [Value.ownBlock] at hk
  subst hk
  exact ⟨cur, hg⟩
theorem row_forms {w : World} {B : Nat} {e : TypeId} {size : Nat} {v : Value} {n : Nat} {l : List Value} (h : w.ownsRow B e size v n l) : ∃ ao cap, v = .slice ao n cap ∧ (0 < n → ∃ g, ao = some ⟨g, 0, none⟩) := by
 rcases h.2 with ⟨rfl, h0⟩ | ⟨g, cap, cur, rfl, _⟩
 ·exact ⟨none, 0, by rw [h0], by omega⟩
 ·exact ⟨_, _, rfl, fun _ => ⟨g, rfl⟩⟩
/-- No block of another type is the slice's. -/
theorem row_ne {w : World} {B : Nat} {e t : TypeId} {size : Nat} {v : Value} {n : Nat} {l : List Value} (h : w.ownsRow B e size v n l) {b : Nat} {cs : Array Value} (hb : w.heap[b]? = some (.cells cs t)) (hne : e ≠ t) : v.ownBlock ≠ some b := by
 intro he
 obtain ⟨cs', hk⟩ := row_typed h _ he
 have := hk.symm.trans hb
 simp at this
 exact hne this.2
theorem rows_ne {w : World} {B B' : Nat} {e e' : TypeId} {size size' : Nat} {v v' : Value} {n n' : Nat} {l l' : List Value} (h : w.ownsRow B e size v n l) (h' : w.ownsRow B' e' size' v' n' l') (hne : e ≠ e') : ∀ k, v'.ownBlock = some k → v.ownBlock ≠ some k := by
 intro k hk
 obtain ⟨cs, hb⟩ := row_typed h' k hk
 exact row_ne h hb hne
theorem row_below {w w' : World} {B : Nat} {e : TypeId} {size : Nat} {v : Value} {n : Nat} {l : List Value} (h : w.ownsRow B e size v n l) (hb : Below w.heap.size w w') : w'.ownsRow B e size v n l :=
 World.ownsRow.kept (row := none) h ⟨hb.os, hb.tape, hb.output, hb.size, fun k hk _ => hb.block k hk⟩ (by cases v.ownBlock <;> simp)
/-- A slice stays as it is while another one grows. -/
theorem row_grew {w w' : World} {B : Nat} {e : TypeId} {size : Nat} {v u u' : Value} {n : Nat} {l : List Value} (h : w.ownsRow B e size v n l) (hg : Grew w w' u u') (hne : ∀ k, u.ownBlock = some k → v.ownBlock ≠ some k) : w'.ownsRow B e size v n l := by
 refine World.ownsRow.kept h hg.grown ?_
 cases hv : v.ownBlock with
 | none => exact .inl rfl
 | some k => exact .inr (fun e => hne k e.symm hv)
theorem row_set {w : World} {B : Nat} {e : TypeId} {size : Nat} {v : Value} {n : Nat} {l : List Value} (h : w.ownsRow B e size v n l) {a : Addr} (hne : v.ownBlock ≠ some a.block) (u : Value) : (w.setCell a u).ownsRow B e size v n l := ownsRow_setCell_other h hne u
theorem flat_length {α : Type} (f : α → List Value) (s : Nat) (hf : ∀ a, (f a).length = s) : ∀ l : List α, (l.flatMap f).length = l.length * s
 | [] => by simp
 | a :: l => by rw [List.flatMap_cons, List.length_append, flat_length f s hf l, hf, List.length_cons, Nat.succ_mul]; omega
theorem flat_at {α : Type} (f : α → List Value) (s : Nat) (hf : ∀ a, (f a).length = s) : ∀ (l : List α) (i j : Nat) (a : α), l[i]? = some a → j < s → (l.flatMap f)[i * s + j]? = (f a)[j]?
 | [], i, j, a, h, _ => by simp at h
 | b :: l, 0, j, a, h, hj => by
  simp at h; subst h
  rw [List.flatMap_cons, Nat.zero_mul, Nat.zero_add, List.getElem?_append_left (by rw [hf]; exact hj)]
 | b :: l, i + 1, j, a, h, hj => by
  rw [List.flatMap_cons, List.getElem?_append_right (by rw [hf, Nat.succ_mul]; omega), hf, show (i + 1) * s + j - s = i * s + j by rw [Nat.succ_mul]; omega]
  exact flat_at f s hf l i j a (by simpa using h) hj
/-- Cells one behind the other, from an address. -/
def CellsAt (w : World) (ao : Option Addr) (cs : List Value) : Prop := cs ≠ [] → ∃ b off, ao = some ⟨b, off, none⟩ ∧ ∀ j u, cs[j]? = some u → w.cell? ⟨b, off + j, none⟩ = some u
theorem CellsAt.below {w w' : World} {ao : Option Addr} {cs : List Value} (h : CellsAt w ao cs) (hb : Below w.heap.size w w') : CellsAt w' ao cs := by
 intro hne
 obtain ⟨b, off, ha, hc⟩ := h hne
 refine ⟨b, off, ha, fun j u hj => ?_⟩
 have := hc j u hj
 rw [hb.cell (by exact World.block_lt_of_cell? w _ this)]
 exact this
theorem row_cells {w : World} {B : Nat} {e : TypeId} {size : Nat} {ao : Option Addr} {n cap : Nat} {l : List Value} (h : w.ownsRow B e size (.slice ao n cap) n l) : CellsAt w ao l := by
 intro hne
 rcases h.2 with ⟨he, h0⟩ | ⟨g, cap', cur, he, _⟩
 ·have := h.1; rw [h0] at this; simp at this; exact absurd this hne
 ·simp only [Value.slice.injEq] at he
  obtain ⟨rfl, _, rfl⟩ := he
  refine ⟨g, 0, rfl, fun j u hj => ?_⟩
  have hl : j < n * size := by rw [← h.1]; exact (List.getElem?_eq_some_iff.1 hj).1
  rw [Nat.zero_add, World.ownsRow.cellAt h j hl]
  exact hj
theorem flat_ne {α : Type} (f : α → List Value) (s : Nat) (hf : ∀ a, (f a).length = s) (hs : 0 < s) {l : List α} {k : Nat} (h : k < l.length) : l.flatMap f ≠ [] := by
 intro e
 have := flat_length f s hf l
 rw [e] at this
 have h2 : 0 < l.length * s := Nat.mul_pos (by omega) hs
 simp at this
 omega
theorem CellsAt.str {w : World} {ao : Option Addr} {l : List ByteArray} (h : CellsAt w ao (l.map Value.string)) (k : Nat) (hk : k < l.length) :
  ∃ b off, ao = some ⟨b, off, none⟩ ∧ w.cell? ⟨b, off + k, none⟩ = some (.string l[k]) := by
 obtain ⟨b, off, ha, hc⟩ := h (by intro e; simp at e; subst e; simp at hk)
 exact ⟨b, off, ha, hc _ _ (by simp [hk])⟩
theorem beq_toList (a b : ByteArray) : (a.toList == b.toList) = decide (a = b) := by
 rw [ByteArray.toList_eq, ByteArray.toList_eq]
 by_cases h : a = b
 ·subst h; simp
 ·have : ¬ a.data.toList = b.data.toList := fun e => h (Go.WideShapes.bytes_inj e)
  rw [beq_eq_false_iff_ne.2 this, decide_eq_false h]
theorem ret_num {a b : Int} (h : a = b) : Ending.returned (.int .i64 a) = .returned (.int .i64 b) := by rw [h]
def noneTo {α : Type} (p : α → Bool) (l : List α) (k : Nat) : Prop := ∀ i (h : i < l.length), i < k → p l[i] = false
theorem noneTo.zero {α : Type} (p : α → Bool) (l : List α) : noneTo p l 0 := fun i h h' => by omega
theorem noneTo.succ {α : Type} {p : α → Bool} {l : List α} {k : Nat} (h : noneTo p l k) (hk : k < l.length) (hp : p l[k] = false) : noneTo p l (k + 1) := by
 intro i hi h'
 rcases Nat.lt_or_ge i k with h1 | h1
 ·exact h i hi h1
 ·obtain rfl : i = k := by omega
  exact hp
theorem CellsAt.tail {w : World} {b off : Nat} {x : Value} {r : List Value} (h : CellsAt w (some ⟨b, off, none⟩) (x :: r)) : CellsAt w (some ⟨b, off + 1, none⟩) r := by
 intro hne
 obtain ⟨b', off', e, hc⟩ := h (by simp)
 simp only [Option.some.injEq, Addr.mk.injEq] at e
 obtain ⟨rfl, rfl, _⟩ := e
 refine ⟨b, off + 1, rfl, fun j u hj => ?_⟩
 have := hc (j + 1) u (by simpa using hj)
 rw [show off + 1 + j = off + (j + 1) by omega]
 exact this
theorem below_draws (w : World) (m : Nat) : Below w.heap.size w (w.drewN m) := by
 induction m with
 | zero => exact Below.refl _ _
 | succ m ih => exact ih.drew
/-- append(s, u), u laid right ahead. -/
theorem append_row (W : World) {ops : Array Oper} {rest : List Oper} {o : Oper} {a : Act} {Q : Exit → Act → World → Prop} (hgd : o.guard = none) (s x : Operand) (t e : TypeId) (z : Value) (size bytes : Nat)
  (ht : Tryz.prog.underlying t = some (.slice e)) (hi : (Tryz.prog.info? e).map (fun i => (i.zero, i.size, i.bytes)) = some (some z, size, bytes)) (hzs : z.cells.size = size) (hsz : 0 < size)
  (ho : o.op = .call { callee := .builtin .append, args := #[s, x], argTypes := #[t, t] })
  (B : Nat) (v : Value) (n : Nat) (l : List Value) (hs : a.eval s = v) (us : List Value) (hus : us.length = size) (h1 : ∀ u ∈ us, u.oneCell' = true) (g : Nat) (cs : Array Value) (hcs : cs = us.toArray) (hx : a.eval x = .slice (some ⟨g, 0, none⟩) 1 1)
  (hg : g = W.heap.size) (hown : W.ownsRow B e size v n l) (hn : n ≤ 4194304) (hlen : (n + 1) * bytes ≤ 140737488355328) (hB : B ≤ W.heap.size)
  (h : ∀ v' w', w'.ownsRow B e size v' (n + 1) (l ++ us) → Grew W w' v v' → wpList Tryz.prog ops Q rest (a.put o.dst v') w') : wpList Tryz.prog ops Q (o :: rest) a (W.alloc (.cells cs e)) := by
 obtain ⟨i0, hi0, hb⟩ := Option.map_eq_some_iff.1 hi
 simp only [Prod.mk.injEq] at hb
 obtain ⟨hz0, hz1, hz2⟩ := hb
 subst hg hcs
 refine wpList_append_grew _ hgd s x t ho B e i0 z size bytes ht hi0 hz0 hz1 hz2 hzs hsz v n l hs (hown.alloc _) ⟨W.heap.size, 0, none⟩ 1 1 us hx (by omega) (cells_new _ _ _) h1 (by unfold maxLen; omega) hlen (by simp; omega) ?_
 intro v' w' h1 h2 _
 exact h v' w' h1 h2.ofAlloc
theorem CellsAt.drop {w : World} {b off : Nat} : ∀ (n : Nat) {r : List Value} , CellsAt w (some ⟨b, off, none⟩) r → CellsAt w (some ⟨b, off + n, none⟩) (r.drop n)
 | 0, r, h => by simpa using h
 | n + 1, [], h => by intro hne; simp at hne
 | n + 1, x :: r, h => by
  have := CellsAt.drop n h.tail
  rw [show off + (n + 1) = off + 1 + n by omega, List.drop_succ_cons]
  exact this
/-- The pieces between the bytes c. -/
def sp (c : UInt8) : List UInt8 → List (List UInt8)
 | [] => [[]]
 | b :: l => if b = c then [] :: sp c l else match sp c l with
  | p :: r => (b :: p) :: r
  | [] => [[b]]
theorem sp_cons (c b : UInt8) (l : List UInt8) : sp c (b :: l) = if b = c then [] :: sp c l else match sp c l with
  | p :: r => (b :: p) :: r
  | [] => [[b]] := rfl
theorem sp_ne (c : UInt8) : ∀ l, sp c l ≠ []
 | [] => by simp [sp]
 | b :: l => by
  unfold sp
  split
  ·simp
  ·split <;> simp
theorem sp_none (c : UInt8) : ∀ l : List UInt8, (∀ k : Nat, l[k]? ≠ some c) → sp c l = [l]
 | [], _ => rfl
 | b :: l, h => by
  have h0 : b ≠ c := fun e => h 0 (by simp [e])
  have ih := sp_none c l (fun k => by simpa using h (k + 1))
  rw [sp_cons, if_neg h0, ih]
theorem sp_hit (c : UInt8) : ∀ (o : Nat) (l : List UInt8), l[o]? = some c → (∀ k : Nat, k < o → l[k]? ≠ some c) → sp c l = l.take o :: sp c (l.drop (o + 1))
 | _, [], h, _ => by simp at h
 | 0, b :: l, h, _ => by
  simp at h
  rw [sp_cons, if_pos h]
  simp
 | o + 1, b :: l, h, hk => by
  have h0 : b ≠ c := fun e => hk 0 (by omega) (by simp [e])
  have ih := sp_hit c o l (by simpa using h) (fun k hkl => by simpa using hk (k + 1) (by omega))
  rw [sp_cons, if_neg h0, ih]
  simp
theorem splitK_sp (c : UInt8) : ∀ (n : Nat) (l : List UInt8), l.length ≤ n → Lib.splitK [c] 0 (Lib.count l [c]) l = sp c l
 | n, l, hn => by
  have hge := Lib.index_ge l [c]
  by_cases hm : Lib.index l [c] = -1
  ·rw [Lib.count_miss hm]
   rw [Lib.index_one] at hm
   rw [sp_none c l (Lib.indexByte_none hm)]
   rfl
  ·obtain ⟨i, hi⟩ : ∃ i : Nat, Lib.index l [c] = i := ⟨(Lib.index l [c]).toNat, by omega⟩
   have hi2 := hi
   rw [Lib.index_one] at hi2
   obtain ⟨h1, h2⟩ := Lib.indexByte_some hi2
   have hlt : i < l.length := (List.getElem?_eq_some_iff.1 h1).1
   rw [Lib.count_hit (by simp) hi, Nat.add_comm 1, Lib.splitK, if_neg (by rw [hi]; simp), hi, sp_hit c i l h1 h2]
   cases n with
   | zero => omega
   | succ n =>
    have := splitK_sp c n (l.drop (i + 1)) (by simp; omega)
    simp only [Int.toNat_natCast, Nat.add_zero, List.length_cons, List.length_nil, Nat.zero_add]
    rw [this]
theorem ws_sp (s : ByteArray) (c : UInt8) : (wsOf s c).map (·.data.toList) = sp c s.data.toList := by
 unfold wsOf
 rw [Lib.splitB_data]
 exact splitK_sp c _ _ (Nat.le_refl _)
theorem info_str : (Tryz.prog.info? 9).map (fun i => (i.zero, i.size, i.bytes)) = some (some (.string ⟨#[]⟩), 1, 16) := by kernel_rfl

end Go.Proofs.YthgcnmilaifkoaaGreatDoor

/- Boxes: a value's cells in a block of their own; a result that lies in one. -/
namespace Go.Proofs.YthgcnmilaifkoaaGreatDoor
open Go.RowKit
set_option linter.unusedVariables false

def Blk (w : World) (b : Nat) (cs : Array Value) (T : TypeId) : Prop := w.heap[b]? = some (.cells cs T)
theorem Blk.lt {w : World} {b : Nat} {cs : Array Value} {T : TypeId} (h : Blk w b cs T) : b < w.heap.size := (Array.getElem?_eq_some_iff.1 h).1
theorem Blk.below {w w' : World} {b : Nat} {cs : Array Value} {T : TypeId} (h : Blk w b cs T) (hb : Below w.heap.size w w') : Blk w' b cs T := (hb.block _ h.lt).trans h
theorem Blk.alloc {w : World} {b : Nat} {cs : Array Value} {T : TypeId} (h : Blk w b cs T) (o : Obj) : Blk (w.alloc o) b cs T := h.below ((Below.refl _ _).alloc (Nat.le_refl _) _)
theorem Blk.cell {w : World} {b : Nat} {cs : Array Value} {T : TypeId} (h : Blk w b cs T) (i : Nat) {v : Value} (hv : cs[i]? = some v) : w.cell? ⟨b, i, none⟩ = some v := (cell_of_row _ _ _ _ _ _ h).trans hv
theorem Blk.open {w : World} {b : Nat} {cs : Array Value} {T : TypeId} (h : Blk w b cs T) (i : Nat) : w.frozen? ⟨b, i, none⟩ = false := by
 have h' : w.heap[b]? = some (.cells cs T) := h
 simp [World.frozen?, h']
theorem Blk.new (w : World) (cs : Array Value) (T : TypeId) : Blk (w.alloc (.cells cs T)) w.heap.size cs T := by
 show (w.heap.push _)[w.heap.size]? = _
 rw [Array.getElem?_push, if_pos rfl]
theorem size_new (w : World) (o : Obj) : (w.alloc o).heap.size = w.heap.size + 1 := by
 show (w.heap.push _).size = _
 rw [Array.size_push]
theorem below_new (w : World) (o : Obj) : Below w.heap.size w (w.alloc o) := (Below.refl _ _).alloc (Nat.le_refl _) _
theorem below_undrew {w w' : World} (h : Below w.drew.heap.size w.drew w') : Below w.heap.size w w' := ⟨h.os, h.tape, h.output, h.size, h.block⟩
/-- Values stored one behind the other. -/
def putC (w : World) (g : Nat) : Nat → List Value → World
 | _, [] => w
 | i, v :: l => putC (w.setCell ⟨g, i, none⟩ v) g (i + 1) l
theorem putC_row {g : Nat} {T : TypeId} : ∀ (l : List Value) (w : World) (i : Nat) (cs : Array Value), Blk w g cs T → i + l.length = cs.size → Blk (putC w g i l) g (cs.toList.take i ++ l).toArray T
 | [], w, i, cs, h, hl => by
  have e : (cs.toList.take i ++ []).toArray = cs := by
   rw [List.append_nil, List.take_of_length_le (by rw [Array.length_toList]; simp at hl; omega)]
  rw [e]
  exact h
 | v :: l, w, i, cs, h, hl => by
  simp only [List.length_cons] at hl
  have h1 : Blk (w.setCell ⟨g, i, none⟩ v) g (cs.setIfInBounds i v) T := Lib.heap_setCell_same h v
  have h2 := putC_row l (w.setCell ⟨g, i, none⟩ v) (i + 1) (cs.setIfInBounds i v) h1 (by rw [Array.size_setIfInBounds]; omega)
  have e : (cs.setIfInBounds i v).toList.take (i + 1) ++ l = cs.toList.take i ++ v :: l := by
   rw [Array.toList_setIfInBounds, List.take_succ_eq_append_getElem (by rw [List.length_set, Array.length_toList]; omega), List.take_set_of_le (Nat.le_refl _)]
   simp
  rw [e] at h2
  exact h2
theorem putC_all {g : Nat} {T : TypeId} {l : List Value} {w : World} {cs : Array Value} (h : Blk w g cs T) (hl : l.length = cs.size) : Blk (putC w g 0 l) g l.toArray T := by
 have := putC_row l w 0 cs h (by omega)
 simpa using this
theorem putC_below {B g : Nat} {a : World} : ∀ (l : List Value) (w : World) (i : Nat), Below B a w → B ≤ g → Below B a (putC w g i l)
 | [], _, _, h, _ => h
 | v :: l, w, i, h, hg => putC_below l _ _ (h.setCell (p := ⟨g, i, none⟩) hg v) hg
theorem putC_other {g b : Nat} {T : TypeId} {cs : Array Value} (hne : b ≠ g) : ∀ (l : List Value) (w : World) (i : Nat), Blk w b cs T → Blk (putC w g i l) b cs T
 | [], _, _, h => h
 | v :: l, w, i, h => putC_other hne l _ _ (by
  show (w.setCell _ _).heap[b]? = _
  rw [heap_setCell_other _ _ _ _ (by exact hne)]
  exact h)
/-- The end of a function whose first result lies in a box, the second in a slot. -/
theorem ret_box {fn : Func} {R : Ending → World → Prop} {a : Act} {w : World} {g : Nat} {cs : Array Value} {e : Value} {T : TypeId} (hres : fn.results = #[.cell 2 T, .tmp 3]) (ht : a.tmps.getD 2 undef = .pointer (some ⟨g, 0, none⟩)) (h3 : a.tmps.getD 3 undef = e) (hd : a.defers = [])
  (hl : (loadVar T ⟨g, 0, none⟩).run Tryz.prog w = .ok (.agg cs) w) (hR : R (.returned (.tuple #[.agg cs, e])) w) : bodyPost Tryz.prog fn R .ret a w := by
 refine bodyPost_ret ((results_cell_tmp hres _ _ _).trans ?_) hd hR
 rw [ht, h3]
 simp only [asAddr, Sem.run_pure, Result.andThen, hl]
theorem ret_agg {x y : Array Value} {e f : Int} (h : x = y) (h2 : e = f) : Ending.returned (.tuple #[.agg x, .int .i64 e]) = .returned (.tuple #[.agg y, .int .i64 f]) := by rw [h, h2]
end Go.Proofs.YthgcnmilaifkoaaGreatDoor

/- append on a slice of bytes that the call made itself, as one step of a walk. -/
namespace Go.Proofs.YthgcnmilaifkoaaGreatDoor
open Go.RowKit
set_option linter.unusedVariables false

theorem info_u8 : (Tryz.prog.info? 5).map (fun i => (i.zero, i.size, i.bytes)) = some (some (.int .u8 0), 1, 1) := by kernel_rfl

theorem append_bytes (w : World) {ops : Array Oper} {rest : List Oper} {o : Oper} {a : Act} {Q : Exit → Act → World → Prop} (hgd : o.guard = none) (s x : Operand)
  (ho : o.op = .call { callee := .builtin .append, args := #[s, x], argTypes := #[50, 50] })
  (B : Nat) (v : Value) (l : List UInt8) (hs : a.eval s = v) (hown : Own w B v l)
  (ad : Addr) (m c : Nat) (news : List UInt8) (hx : a.eval x = .slice (some ad) m c) (hm : news.length = m) (hnews : ∀ j u, (bs news)[j]? = some u → w.cell? (ad.add j) = some u)
  (hlen : l.length + m ≤ 140737488355328) (hB : B ≤ w.heap.size)
  (h : ∀ v' w', Own w' B v' (l ++ news) → Grew w w' v v' → wpList Tryz.prog ops Q rest (a.put o.dst v') w') : wpList Tryz.prog ops Q (o :: rest) a w := by
 obtain ⟨i0, hi, hz0, hz1, hz2⟩ := info_parts info_u8
 subst hm
 refine wpList_append_grew w hgd s x 50 ho B 5 i0 (.int .u8 0) 1 1 Tryz.underlying50 hi hz0 hz1 hz2 rfl (by decide) v l.length (bs l) hs hown ad news.length c (bs news) hx (by simp [bs]) hnews (bs_one _) (by unfold maxLen; omega) (by omega) hB ?_
 intro v' w' h1 h2 _
 refine h v' w' ?_ h2
 unfold Own
 rw [bs_append, List.length_append]
 exact h1

/-- .. where what is appended is a literal that was laid right ahead of it. -/
theorem append_lit (W : World) {ops : Array Oper} {rest : List Oper} {o : Oper} {a : Act} {Q : Exit → Act → World → Prop} (hgd : o.guard = none) (s x : Operand)
  (ho : o.op = .call { callee := .builtin .append, args := #[s, x], argTypes := #[50, 50] })
  (B : Nat) (v : Value) (l : List UInt8) (hs : a.eval s = v) (news : List UInt8) (g m c : Nat) (cs : Array Value) (hx : a.eval x = .slice (some ⟨g, 0, none⟩) m c) (hm : news.length = m) (hc : cs = (bs news).toArray)
  (hg : g = W.heap.size) (hown : Own W B v l) (hlen : l.length + m ≤ 140737488355328) (hB : B ≤ W.heap.size)
  (h : ∀ v' w', Own w' B v' (l ++ news) → Grew W w' v v' → wpList Tryz.prog ops Q rest (a.put o.dst v') w') : wpList Tryz.prog ops Q (o :: rest) a (W.alloc (.cells cs 5)) := by
 subst hg hc
 exact append_bytes _ hgd s x ho B v l hs (hown.alloc _) ⟨W.heap.size, 0, none⟩ m c news hx hm (cells_new _ _ _) hlen (by simp; omega) fun v' w' h1 h2 => h v' w' h1 h2.ofAlloc

end Go.Proofs.YthgcnmilaifkoaaGreatDoor
