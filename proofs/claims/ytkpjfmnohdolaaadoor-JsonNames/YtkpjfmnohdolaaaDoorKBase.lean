/- Plain definitions for layer 1 (keys): parts, validity, pieces, keys. -/
import Derived.WalkKit
import Derived.WalkSpells
import Derived.WalkLawsBesides
import Derived.Deep.Light
namespace Go.Proofs.YtkpjfmnohdolaaaDoor
open Go.RowKit
set_option linter.unusedVariables false

/-- A part: kind, text, number. -/
structure Pt where
  k : Int
  t : ByteArray
  n : Int

def Pt.cells (p : Pt) : List Value := [.int .i64 p.k, .string p.t, .int .u64 p.n]
def Pt.val (p : Pt) : Value := .agg #[.int .i64 p.k, .string p.t, .int .u64 p.n]
def Pt.wf (p : Pt) : Prop := (-9223372036854775808 ≤ p.k ∧ p.k ≤ 9223372036854775807) ∧ (0 ≤ p.n ∧ p.n ≤ 18446744073709551615) ∧ p.t.size ≤ 140737488351232

def vldB (p : Pt) : Bool :=
  if p.k == 1 then p.n == 0 else if p.k == 2 then p.t.toList.isEmpty else p.k == 3 && (p.t.toList.isEmpty && (p.n == 0 || p.n == 1))

/-- The parts ps lie one behind the other at the address, three cells each. -/
def PartsAt (w : World) (ao : Option Addr) (ps : List Pt) : Prop :=
  ∀ i (p : Pt), ps[i]? = some p → ∃ b off, ao = some ⟨b, off, none⟩ ∧ w.cell? ⟨b, off + i * 3, none⟩ = some (.int .i64 p.k) ∧ w.cell? ⟨b, off + i * 3 + 1, none⟩ = some (.string p.t) ∧ w.cell? ⟨b, off + i * 3 + 2, none⟩ = some (.int .u64 p.n) ∧ p.wf

theorem PartsAt.below {w w' : World} {ao : Option Addr} {ps : List Pt} (h : PartsAt w ao ps) (hb : Below w.heap.size w w') : PartsAt w' ao ps := by
  intro i p hp
  obtain ⟨b, off, ha, h0, h1, h2, hw⟩ := h i p hp
  have hl : b < w.heap.size := World.block_lt_of_cell? w _ h0
  exact ⟨b, off, ha, by rw [hb.cell (by exact hl)]; exact h0, by rw [hb.cell (by exact hl)]; exact h1, by rw [hb.cell (by exact hl)]; exact h2, hw⟩

theorem ret_bool {a b : Bool} (h : a = b) : Ending.returned (.bool a) = .returned (.bool b) := by rw [h]

end Go.Proofs.YtkpjfmnohdolaaaDoor
