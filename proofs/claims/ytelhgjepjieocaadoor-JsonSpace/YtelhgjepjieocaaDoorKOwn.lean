import Derived.WalkKit
import Derived.WalkSpells
import Derived.WalkLawsBesides
import Derived.Deep.Light
/- Plain definitions for layer 1 (keys): parts, validity, pieces, keys. -/
namespace Go.Proofs.YtelhgjepjieocaaDoor
open Go.RowKit
set_option linter.unusedVariables false

/-- A part: kind, text, number. -/
structure Pt where
  k : Int
  t : ByteArray
  n : Int

def Pt.cells (p : Pt) : List Value := [.int .i64 p.k, .string p.t, .int .u64 p.n]
def Pt.val (p : Pt) : Value := .agg #[.int .i64 p.k, .string p.t, .int .u64 p.n]
def Pt.wf (p : Pt) : Prop := (-9223372036854775808 ≤ p.k ∧ p.k ≤ 9223372036854775807) ∧ (0 ≤ p.n ∧ p.n ≤ 18446744073709551615) ∧ p.t.size ≤ 140737488351232

def vldB (p : Pt) : Bool :=
  if p.k == 1 then p.n == 0 else if p.k == 2 then p.t.toList.isEmpty else p.k == 3 && (p.t.toList.isEmpty && (p.n == 0 || p.n == 1))

/-- The parts ps lie one behind the other at the address, three cells each. -/
def PartsAt (w : World) (ao : Option Addr) (ps : List Pt) : Prop :=
  ∀ i (p : Pt), ps[i]? = some p → ∃ b off, ao = some ⟨b, off, none⟩ ∧ w.cell? ⟨b, off + i * 3, none⟩ = some (.int .i64 p.k) ∧ w.cell? ⟨b, off + i * 3 + 1, none⟩ = some (.string p.t) ∧ w.cell? ⟨b, off + i * 3 + 2, none⟩ = some (.int .u64 p.n) ∧ p.wf

theorem PartsAt.below {w w' : World} {ao : Option Addr} {ps : List Pt} (h : PartsAt w ao ps) (hb : Below w.heap.size w w') : PartsAt w' ao ps := by
  intro i p hp
  obtain ⟨b, off, ha, h0, h1, h2, hw⟩ := h i p hp
  have hl : b < w.heap.size := World.block_lt_of_cell? w _ h0
  exact ⟨b, off, ha, by rw [hb.cell (by exact hl)]; exact h0, by rw [hb.cell (by exact hl)]; exact h1, by rw [hb.cell (by exact hl)]; exact h2, hw⟩

theorem ret_bool {a b : Bool} (h : a = b) : Ending.returned (.bool a) = .returned (.bool b) := by rw [h]

end Go.Proofs.YtelhgjepjieocaaDoor

/- Slices that a call has made itself, and what stays as it was while they grow. -/
namespace Go.Proofs.YtelhgjepjieocaaDoor
open Go.RowKit
set_option linter.unusedVariables false

/-- From w to w' new memory was made and the slice v became v': no old block but v's own was written; v' lies in v's block or in a new one. -/
structure Grew (w w' : World) (v v' : Value) : Prop where
  grown : w.grownBy w' v.ownBlock
  place : ∀ k, v'.ownBlock = some k → v.ownBlock = some k ∨ w.heap.size ≤ k

theorem grownBy_trans {a b c : World} {r s : Option Nat} (h : a.grownBy b r) (k : b.grownBy c s) (hs : ∀ i, s = some i → r = some i ∨ a.heap.size ≤ i) : a.grownBy c r :=
  ⟨k.os.trans h.os, k.tape.trans h.tape, k.output.trans h.output, Nat.le_trans h.size k.size, fun i hi hr =>
    (k.block i (Nat.lt_of_lt_of_le hi h.size) (fun e => by rcases hs i e.symm with e' | e'; exact hr e'.symm; omega)).trans (h.block i hi hr)⟩

theorem Grew.refl (w : World) (v : Value) : Grew w w v v := ⟨World.grownBy.refl _ _, fun _ h => .inl h⟩
theorem Grew.trans {a b c : World} {u v x : Value} (h : Grew a b u v) (k : Grew b c v x) : Grew a c u x :=
  ⟨grownBy_trans h.grown k.grown h.place, fun i hi => by
    rcases k.place i hi with e | e
    · exact h.place i e
    · exact .inr (Nat.le_trans h.grown.size e)⟩
theorem Grew.alloc {a b : World} {u v : Value} (h : Grew a b u v) (o : Obj) : Grew a (b.alloc o) u v :=
  h.trans ⟨World.grownBy_alloc b o _, fun _ h => .inl h⟩
theorem Grew.drew {a b : World} {u v : Value} (h : Grew a b u v) : Grew a b.drew u v :=
  ⟨⟨h.grown.os, h.grown.tape, h.grown.output, h.grown.size, h.grown.block⟩, h.place⟩
theorem Grew.below {a b c : World} {u v : Value} (h : Grew a b u v) (k : Below b.heap.size b c) : Grew a c u v :=
  h.trans ⟨⟨k.os, k.tape, k.output, k.size, fun i hi _ => k.block i hi⟩, fun _ h => .inl h⟩
theorem Grew.ofAlloc {a c : World} {u v : Value} {o : Obj} (h : Grew (a.alloc o) c u v) : Grew a c u v := ((Grew.refl a u).alloc o).trans h
theorem Grew.toBelow {a b : World} {u v : Value} {B : Nat} (h : Grew a b u v) (hB : B ≤ a.heap.size) (hu : ∀ k, u.ownBlock = some k → B ≤ k) : Below B a b :=
  (Below.refl B a).grown h.grown hB hu
theorem Grew.cell {a b : World} {u v : Value} (h : Grew a b u v) {p : Addr} {x : Value} (hc : a.cell? p = some x) (hne : some p.block ≠ u.ownBlock) : b.cell? p = some x := h.grown.cell hc hne
theorem Grew.size {a b : World} {u v : Value} (h : Grew a b u v) : a.heap.size ≤ b.heap.size := h.grown.size

section
variable {P : Program} (w : World)

theorem run_append_grew (base : Nat) (t ty e : TypeId) (i : TypeInfo) (z : Value) (size bytes : Nat) (ht : P.underlying t = some (.slice e)) (hi : P.info? e = some i) (hz : i.zero = some z)
    (hsize : i.size = size) (hby : i.bytes = bytes) (hzs : z.cells.size = size) (hsz : 0 < size)
    (v : Value) (n : Nat) (xs : List Value) (hown : w.ownsRow base e size v n xs)
    (a : Addr) (m c : Nat) (news : List Value) (hl : news.length = m * size) (hnews : ∀ j u, news[j]? = some u → w.cell? (a.add j) = some u) (h1 : ∀ u ∈ news, u.oneCell' = true)
    (h63 : n + m ≤ maxLen) (hbytes : (n + m) * bytes ≤ 140737488355328) (hbase : base ≤ w.heap.size) :
    ∃ v' w', (Builtin.append_ #[t, t] ty #[v, .slice (some a) m c]).run P w = .ok v' w' ∧ w'.ownsRow base e size v' (n + m) (xs ++ news) ∧ Grew w w' v v' ∧ (v' = .slice none 0 0 ↔ v = .slice none 0 0 ∧ m = 0) := by
  obtain ⟨v', w', hr, ho, hg, hn⟩ := run_append_own (P := P) w base t ty e i z size bytes ht hi hz hsize hby hzs hsz v n xs hown a m c news hl hnews h1 h63 hbytes hbase
  refine ⟨v', w', hr, ho, ⟨hg, ?_⟩, hn⟩
  intro k hk
  have hsmall : n + m ≤ 9223372036854775807 := by simp only [maxLen] at h63; omega
  subst hsize
  subst hby
  rcases hown.2 with ⟨rfl, rfl⟩ | ⟨g, cap, cur, rfl, hbg, hgg, hnc, hcm, hcs, htake⟩
  · by_cases hm : m = 0
    · have := hn.2 ⟨rfl, hm⟩; subst this; simp [Value.ownBlock] at hk
    · have hr2 := run_append_nil (P := P) w t ty e i z ht hi hz a m c news hl hnews (by omega) (by omega) (by simp only [Nat.zero_add] at hbytes; omega)
      rw [hr] at hr2
      injection hr2 with e1 e2
      subst e1
      simp [Value.ownBlock] at hk
      right; omega
  · by_cases hroom : n + m ≤ cap
    · have hfit : n * i.size + news.length ≤ cur.size := by rw [hl, hcs, ← Nat.add_mul]; exact Nat.mul_le_mul_right _ hroom
      have hr2 := run_append_room (P := P) w t ty e i ht hi g n cap cur hgg a m c news hl hnews h1 hroom hfit
      rw [hr] at hr2
      injection hr2 with e1 e2
      subst e1
      left; exact hk
    · have holds : ∀ j u, xs[j]? = some u → w.cell? ((⟨g, 0, none⟩ : Addr).add j) = some u := hown.cells (g := g) rfl
      have hr2 := run_append_grow (P := P) w t ty e i z ht hi hz ⟨g, 0, none⟩ n cap xs hown.1 holds a m c news hl hnews (by omega) (by omega) (growslice_fits (by omega) hbytes)
      rw [hr] at hr2
      injection hr2 with e1 e2
      subst e1
      simp [Value.ownBlock] at hk
      right; omega

theorem wpList_append_grew {ops : Array Oper} {rest : List Oper} {o : Oper} {a : Act} {Q : Exit → Act → World → Prop} (hgd : o.guard = none) (s x : Operand) (t : TypeId)
    (ho : o.op = .call { callee := .builtin .append, args := #[s, x], argTypes := #[t, t] })
    (base : Nat) (e : TypeId) (i : TypeInfo) (z : Value) (size bytes : Nat) (ht : P.underlying t = some (.slice e)) (hi : P.info? e = some i) (hz : i.zero = some z)
    (hsize : i.size = size) (hby : i.bytes = bytes) (hzs : z.cells.size = size) (hsz : 0 < size)
    (v : Value) (n : Nat) (xs : List Value) (hs : a.eval s = v) (hown : w.ownsRow base e size v n xs)
    (ad : Addr) (m c : Nat) (news : List Value) (hx : a.eval x = .slice (some ad) m c) (hl : news.length = m * size) (hnews : ∀ j u, news[j]? = some u → w.cell? (ad.add j) = some u) (h1 : ∀ u ∈ news, u.oneCell' = true)
    (h63 : n + m ≤ maxLen) (hbytes : (n + m) * bytes ≤ 140737488355328) (hbase : base ≤ w.heap.size)
    (h : ∀ v' w', w'.ownsRow base e size v' (n + m) (xs ++ news) → Grew w w' v v' → (v' = .slice none 0 0 ↔ v = .slice none 0 0 ∧ m = 0) → wpList P ops Q rest (a.put o.dst v') w') : wpList P ops Q (o :: rest) a w :=
  wpList_plain hgd fun K hK => by
    obtain ⟨v', w', hr, h2, h3, h4⟩ := run_append_grew (P := P) w base t o.type e i z size bytes ht hi hz hsize hby hzs hsz v n xs hown ad m c news hl hnews h1 h63 hbytes hbase
    unfold Oper.wp execOp
    simp only [ho, resolve, invoke, builtin, Sem.run_bind, Sem.run_pure, Result.andThen_ok, List.map_toArray, List.map_cons, List.map_nil, hs, hx, hr]
    exact hK _ _ (h v' w' h2 h3 h4)
end

/-- Bytes as cells. -/
def bs (l : List UInt8) : List Value := l.map fun c => .int .u8 (c.toNat : Int)
theorem bs_length (l : List UInt8) : (bs l).length = l.length := by simp [bs]
theorem bs_append (l m : List UInt8) : bs (l ++ m) = bs l ++ bs m := by simp [bs]
theorem bs_one (l : List UInt8) : ∀ u ∈ bs l, u.oneCell' = true := by
  intro u hu
  obtain ⟨c, _, rfl⟩ := List.mem_map.1 hu
  rfl

/-- The slice v, made by the call itself, holds the bytes l. -/
def Own (w : World) (B : Nat) (v : Value) (l : List UInt8) : Prop := w.ownsRow B 5 1 v l.length (bs l)

theorem Own.nil (w : World) (B : Nat) : Own w B (.slice none 0 0) [] := World.ownsRow_nil _ _ _ _
theorem Own.alloc {w : World} {B : Nat} {v : Value} {l : List UInt8} (h : Own w B v l) (o : Obj) : Own (w.alloc o) B v l := World.ownsRow.alloc h o
theorem Own.lt {w : World} {B : Nat} {v : Value} {l : List UInt8} (h : Own w B v l) : ∀ k, v.ownBlock = some k → B ≤ k ∧ k < w.heap.size := World.ownsRow.lt h
theorem Own.shape {w : World} {B : Nat} {v : Value} {l : List UInt8} (h : Own w B v l) : ∃ ao cap, v = .slice ao l.length cap := by
  rcases h.2 with ⟨rfl, h0⟩ | ⟨g, cap, cur, rfl, _⟩
  · exact ⟨none, 0, by rw [h0]⟩
  · exact ⟨_, _, rfl⟩
theorem Own.below {w w' : World} {B : Nat} {v : Value} {l : List UInt8} (h : Own w B v l) (hb : Below w.heap.size w w') : Own w' B v l :=
  World.ownsRow.kept (row := none) h ⟨hb.os, hb.tape, hb.output, hb.size, fun k hk _ => hb.block k hk⟩ (by cases v.ownBlock <;> simp)
theorem Own.mono {w : World} {B B' : Nat} {v : Value} {l : List UInt8} (h : Own w B v l) (hB : B' ≤ B) : Own w B' v l := by
  refine ⟨h.1, ?_⟩
  rcases h.2 with h | ⟨g, cap, cur, hv, hb, r⟩
  · exact .inl h
  · exact .inr ⟨g, cap, cur, hv, Nat.le_trans hB hb, r⟩
theorem Own.toBelow {w w' : World} {B : Nat} {v v' : Value} {l : List UInt8} (h : Own w B v l) (hB : B ≤ w.heap.size) (hg : Grew w w' v v') : Below B w w' := hg.toBelow hB fun k hk => (h.lt k hk).1

/-- A struct of three cells that was laid ahead stays where it is while a slice of the call's own grows. -/
theorem Own.box {w w1 : World} {B : Nat} {v v1 : Value} {l : List UInt8} {x0 x1 x2 : Value} {t : TypeId} (h : Own w B v l) (hg : Grew (w.alloc (.cells #[x0, x1, x2] t)) w1 v v1) :
    w1.cell? ⟨w.heap.size, 0, none⟩ = some x0 ∧ w1.cell? ⟨w.heap.size, 1, none⟩ = some x1 ∧ w1.cell? ⟨w.heap.size, 2, none⟩ = some x2 := by
  have hne : some w.heap.size ≠ v.ownBlock := fun e => by have := (h.lt _ e.symm).2; omega
  refine ⟨hg.cell (p := ⟨w.heap.size, 0, none⟩) ?_ hne, hg.cell (p := ⟨w.heap.size, 1, none⟩) ?_ hne, hg.cell (p := ⟨w.heap.size, 2, none⟩) ?_ hne⟩ <;> (rw [World.cell?_alloc_mark]; rfl)

theorem Own.at {w : World} {B g n cap : Nat} {l : List UInt8} (h : Own w B (.slice (some ⟨g, 0, none⟩) n cap) l) (hn : l.length = n) (i : Nat) (hi : i < n) :
    w.cell? ⟨g, i, none⟩ = some (.int .u8 ((l.getD i 0).toNat : Int)) ∧ w.frozen? ⟨g, i, none⟩ = false := by
  subst hn
  refine ⟨?_, World.ownsRow.frozenAt h i⟩
  rw [World.ownsRow.cellAt h i (by omega)]
  simp [bs, hi]
theorem Own.stored {w : World} {B g n cap : Nat} {l : List UInt8} (h : Own w B (.slice (some ⟨g, 0, none⟩) n cap) l) (hn : l.length = n) (i : Nat) (c : UInt8) :
    Own (w.setCell ⟨g, i, none⟩ (.int .u8 (c.toNat : Int))) B (.slice (some ⟨g, 0, none⟩) n cap) (l.set i c) := by
  subst hn
  have := (World.ownsRow.stored h i (.int .u8 (c.toNat : Int))).1
  unfold Own
  rw [List.length_set]
  have e : bs (l.set i c) = (bs l).set i (.int .u8 (c.toNat : Int)) := by simp [bs, List.map_set]
  rw [e]
  exact this
theorem Own.storedOther {w : World} {B : Nat} {v : Value} {l : List UInt8} (h : Own w B v l) {a : Addr} (ha : v.ownBlock ≠ some a.block) (u : Value) : Own (w.setCell a u) B v l := ownsRow_setCell_other h ha u

theorem cells_new (w : World) (xs : List Value) (t : TypeId) : ∀ j u, xs[j]? = some u → (w.alloc (.cells xs.toArray t)).cell? ((⟨w.heap.size, 0, none⟩ : Addr).add j) = some u := by
  intro j u hj
  have hadd : (⟨w.heap.size, 0, none⟩ : Addr).add j = ⟨w.heap.size, j, none⟩ := by unfold Addr.add; split <;> simp_all
  rw [hadd, World.cell?_alloc_mark]
  simpa using hj

end Go.Proofs.YtelhgjepjieocaaDoor
