/- Layer 6 (schema): printLine. -/
import Derived.Test.YtbpmahchinblhaaDoorSPrint1
namespace Go.Proofs.YtbpmahchinblhaaDoor
open Go.RowKit Go.Shelf
set_option linter.unusedVariables false

abbrev Bld (B b : Nat) (l : List UInt8) (w : World) : Prop := Lib.IsBuilderF 56 5 B b (Lib.byteCells l) w
theorem Bld.below {B b : Nat} {l : List UInt8} {w w' : World} (h : Bld B b l w) (hb : Below w.heap.size w w') : Bld B b l w' := by
  have go : ∀ p, Lib.BuilderAtF 56 5 B b p (Lib.byteCells l) w → Lib.BuilderAtF 56 5 B b p (Lib.byteCells l) w' := by
    rintro p ⟨hB, v, hv, ho, hne⟩
    exact ⟨hB, v, (hb.block _ (lt_blk hv)).trans hv, World.ownsRowF.kept (row := none) ho ⟨hb.os, hb.tape, hb.output, hb.size, fun k hk _ => hb.block k hk⟩ (by cases v.ownBlock <;> simp), hne⟩
  exact h.elim (fun x => .inl (go _ x)) (fun x => .inr (go _ x))
theorem others_below {e : TypeId} {b : Option Nat} {w w' : World} (hb : Below w.heap.size w w') : Lib.OthersKept e b w w' := fun k o hk _ _ => (hb.block k (lt_blk hk)).trans hk
theorem bytes_snoc (l : List UInt8) (s : ByteArray) : Lib.byteCells l ++ Lib.strCells s = Lib.byteCells (l ++ s.data.toList) := by simp [Lib.byteCells, Lib.strCells]
theorem lit_list (l : List UInt8) : (⟨l.toArray⟩ : ByteArray).data.toList = l := by simp

set_option maxHeartbeats 1000000 in
theorem printLine_calls (B b wb off c : Nat) (ws : List ByteArray) (l : List UInt8) (w : World) (hb : Bld B b l w) (hB : B ≤ w.heap.size) (hc : CellsAt w (some ⟨wb, off, none⟩) (ws.map Value.string)) (hn : 0 < ws.length) (hcap : ws.length ≤ c) (hwl : ws.length ≤ 100) (hlen : l.length + (lineL ws).length ≤ 1000000) :
    Calls Tryd.prog 16 #[.pointer (some ⟨b, 0, none⟩), .slice (some ⟨wb, off, none⟩) ws.length c] w fun e w' => e = .returned (.tuple #[]) ∧ Bld B b (l ++ lineL ws) w' ∧ Below B w w' ∧ Lib.OthersKept 5 (some b) w w' := by
  have hcells : ∀ (j : Nat) x, ws[j]? = some x → w.cell? ⟨wb, off + j, none⟩ = some (.string x) := by
    intro j x hj
    obtain ⟨hjl, rfl⟩ := List.getElem?_eq_some_iff.1 hj
    obtain ⟨b', off', e, hx⟩ := hc.str j hjl
    simp only [Option.some.injEq, Addr.mk.injEq] at e
    obtain ⟨rfl, rfl, _⟩ := e
    exact hx
  have hbk : wb < w.heap.size := World.block_lt_of_cell? w _ (hcells 0 ws[0] (by simp [hn]))
  have hj : (Lib.join (ws.map (·.data.toList)) [32]).length + 1 = (lineL ws).length := by simp [lineL]
  have HJ := Tryd.strings_Join wb off c ws ⟨#[32]⟩ w hcells hbk (by omega) hcap (by show (Lib.join (ws.map (·.data.toList)) [32]).length ≤ _; omega)
  have HJ' : Hid (Calls Tryd.prog 31 #[.slice (some ⟨wb, off, none⟩) ws.length c, .string ⟨#[32]⟩] w fun e w' => e = .returned (.string ⟨(Lib.join (ws.map (·.data.toList)) [32]).toArray⟩) ∧ Below w.heap.size w w') := HJ
  obtain ⟨J, hJ⟩ : ∃ J, J = Lib.join (ws.map (·.data.toList)) [32] := ⟨_, rfl⟩
  rw [← hJ] at hj HJ'
  have HL : Hid (lineL ws = J ++ [10]) := by rw [Hid, hJ]; rfl
  have HB : Hid (Bld B b l w) := hb
  clear HJ hJ hcells hc hb
  go_enter Tryd.func16, Tryd.ntmps16
  go_wp2_with fail
  refine HJ'.out.mono ?_
  rintro e w1 ⟨rfl, hb1⟩
  have HB1 : Hid (Bld B b l w1) := HB.out.below hb1
  have H1 : Hid (Below B w w1 ∧ Lib.OthersKept 5 (some b) w w1) := ⟨hb1.mono hB, others_below hb1⟩
  have hB1 : B ≤ w1.heap.size := Nat.le_trans hB hb1.size
  clear hb1
  go_wp2_with fail
  refine (Tryd.Builder_WriteString_own B b _ ⟨J.toArray⟩ w1 HB1.out (by rw [Lib.byteCells_length]; simp [ByteArray.size]; omega) hB1).mono ?_
  rintro e w2 ⟨rfl, hb2, hl2, ho2⟩
  rw [bytes_snoc, lit_list] at hb2
  have HB2 : Hid (Bld B b (l ++ J) w2) := .inr hb2
  have H2 : Hid (Below B w w2 ∧ Lib.OthersKept 5 (some b) w w2) := ⟨H1.out.1.trans hl2, H1.out.2.trans ho2⟩
  have hB2 : B ≤ w2.heap.size := Nat.le_trans hB1 hl2.size
  clear hb2 hl2 ho2
  go_wp2_with fail
  refine (Tryd.Builder_WriteString_own B b _ ⟨#[10]⟩ w2 HB2.out (by rw [Lib.byteCells_length]; simp [ByteArray.size]; omega) hB2).mono ?_
  rintro e w3 ⟨rfl, hb3, hl3, ho3⟩
  rw [bytes_snoc] at hb3
  have HB3 : Hid (Bld B b (l ++ J ++ [10]) w3) := .inr hb3
  have H3 : Hid (Below B w w3 ∧ Lib.OthersKept 5 (some b) w w3) := ⟨H2.out.1.trans hl3, H2.out.2.trans ho3⟩
  clear hb3 hl3 ho3
  go_wp2
  go_end0
  rw [HL.out, ← List.append_assoc]
  exact ⟨rfl, HB3.out, H3.out⟩
end Go.Proofs.YtbpmahchinblhaaDoor
