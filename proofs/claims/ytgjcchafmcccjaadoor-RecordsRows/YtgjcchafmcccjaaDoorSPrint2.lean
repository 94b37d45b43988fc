import Derived.Test.YtgjcchafmcccjaaDoorSField
import Derived.Shelf.Strings.BuilderK
import Derived.Lib.Join
/- Layer 6 (schema): wordOf, fieldName, printLine. -/
namespace Go.Proofs
theorem Tryd.Builder_WriteString_own : ∀ (B b : Nat) (bs : List Value) (s : ByteArray) (w : World), Lib.IsBuilderF 105 5 B b bs w → bs.length + s.size ≤ 140737488355328 → B ≤ w.heap.size →
    Calls Tryd.prog 69 #[.pointer (some ⟨b, 0, none⟩), .string s] w fun e w' => e = .returned (.tuple #[.int .i64 s.size, .nilIface]) ∧ (Lib.BuilderAtF 105 5 B b (.pointer (some ⟨b, 0, none⟩)) (bs ++ Lib.strCells s) w' ∧ Go.RowKit.Below B w w' ∧ Lib.OthersKept 5 (some b) w w') :=
  fun B b bs s w h1 h2 h3 => Any.Builder_WriteString_k { Tryd.lays156 with } Tryd.Builder_Extra_156 B b bs s w h1 h2 h3
end Go.Proofs
namespace Go.Proofs.YtgjcchafmcccjaaDoor
open Go.RowKit Go.Shelf
set_option linter.unusedVariables false

def wordB (k : Int) : ByteArray := if k = 1 then textW else if k = 2 then numW else if k = 3 then listW else ⟨#[]⟩

set_option maxRecDepth 100000 in
set_option maxHeartbeats 1000000 in
theorem wordOf_calls (k : Int) (w : World) (h : KindsAt w) : Calls Tryd.prog 45 #[.int .i64 k] w fun e w' => e = .returned (.string (wordB k)) ∧ Below w.heap.size w w' := by
  obtain ⟨c0, c1, c2, c3, c4, c5⟩ := h
  have i0 := kw_index0
  have i1 := kw_index1
  have i2 := kw_index2
  have HW : Hid (∀ j, wordB j = if j = 1 then textW else if j = 2 then numW else if j = 3 then listW else ⟨#[]⟩) := fun j => rfl
  have q1 : ((1 : Int) == k) = decide (k = 1) := by rw [Bool.eq_iff_iff]; simp; exact eq_comm
  have q2 : ((2 : Int) == k) = decide (k = 2) := by rw [Bool.eq_iff_iff]; simp; exact eq_comm
  have q3 : ((3 : Int) == k) = decide (k = 3) := by rw [Bool.eq_iff_iff]; simp; exact eq_comm
  go_enter Tryd.func45, Tryd.ntmps45
  go_wp2
  go_loopw [6] (fun x wr => ∃ j : Nat, j ≤ 3 ∧ x = .int .i64 j ∧ Hid ((0 < j → k ≠ 1) ∧ (1 < j → k ≠ 2) ∧ (2 < j → k ≠ 3)) ∧ Below w.heap.size w wr) (fun x _ => 3 - (intOf x).toNat)
  case atStart => exact ⟨0, Nat.zero_le _, rfl, ⟨by omega, by omega, by omega⟩, Below.refl _ _⟩
  case round =>
    obtain ⟨j, hj, rfl, HK, hb⟩ := hrel
    have : j = 0 ∨ j = 1 ∨ j = 2 ∨ j = 3 := by omega
    rcases this with rfl | rfl | rfl | rfl
    · by_cases e1 : k = 1
      · have HE : Hid (wordB k = textW) := by rw [Hid, HW.out, if_pos e1]
        rw [decide_eq_true e1] at q1
        clear e1
        go_wp2
        go_ret
        exact ⟨by rw [HE.out]; rfl, hb.alloc hb.size _⟩
      · rw [decide_eq_false e1] at q1
        have HE : Hid (¬ k = 1) := e1
        clear e1
        go_wp2
        go_roundw
        case rel => exact ⟨1, by omega, rfl, ⟨fun _ => HE.out, by omega, by omega⟩, hb.alloc hb.size _⟩
        case measure => simp [intOf]
    · by_cases e1 : k = 2
      · have HE : Hid (wordB k = numW) := by rw [Hid, HW.out, if_neg (HK.out.1 (by omega)), if_pos e1]
        rw [decide_eq_true e1] at q2
        clear e1
        go_wp2
        go_ret
        exact ⟨by rw [HE.out]; rfl, hb.alloc hb.size _⟩
      · rw [decide_eq_false e1] at q2
        have HE : Hid (¬ k = 2) := e1
        clear e1
        go_wp2
        go_roundw
        case rel => exact ⟨2, by omega, rfl, ⟨fun _ => HK.out.1 (by omega), fun _ => HE.out, by omega⟩, hb.alloc hb.size _⟩
        case measure => simp [intOf]
    · by_cases e1 : k = 3
      · have HE : Hid (wordB k = listW) := by rw [Hid, HW.out, if_neg (HK.out.1 (by omega)), if_neg (HK.out.2.1 (by omega)), if_pos e1]
        rw [decide_eq_true e1] at q3
        clear e1
        go_wp2
        go_ret
        exact ⟨by rw [HE.out]; rfl, hb.alloc hb.size _⟩
      · rw [decide_eq_false e1] at q3
        have HE : Hid (¬ k = 3) := e1
        clear e1
        go_wp2
        go_roundw
        case rel => exact ⟨3, by omega, rfl, ⟨fun _ => HK.out.1 (by omega), fun _ => HK.out.2.1 (by omega), fun _ => HE.out⟩, hb.alloc hb.size _⟩
        case measure => simp [intOf]
    · have HE : Hid (wordB k = ⟨#[]⟩) := by rw [Hid, HW.out, if_neg (HK.out.1 (by omega)), if_neg (HK.out.2.1 (by omega)), if_neg (HK.out.2.2 (by omega))]
      go_wp2
      go_ret
      exact ⟨by rw [HE.out]; rfl, hb⟩

set_option maxHeartbeats 1000000 in
theorem fieldName_calls (t : TV) (p : Nat) (w : World) (hf : CellsAt w t.fa (fcs t.fs)) (hp : p < t.fs.length) (hl : t.fs.length ≤ 16) :
    Calls Tryd.prog 71 #[.agg #[.string t.n, .slice t.fa t.fs.length t.fc, .slice t.xa t.xs.length t.xc], .int .i64 (p : Int)] w fun e w' => e = .returned (.string t.fs[p].n) ∧ Below w.heap.size w w' := by
  obtain ⟨b, off, ef, f0, f1⟩ := hf.fld p hp
  rw [ef]
  have f0' : ∀ o, (w.alloc o).cell? ⟨b, off + p * 2, none⟩ = some (.string t.fs[p].n) := fun o => by rw [((Below.refl _ w).alloc (Nat.le_refl _) o).cell (by exact World.block_lt_of_cell? w _ f0)]; exact f0
  have q0 : decide ((p : Int) < 0) = false := by rw [decide_eq_false_iff_not]; omega
  have q1 : decide ((t.fs.length : Int) ≤ (p : Int)) = false := by rw [decide_eq_false_iff_not]; omega
  clear ef hf f1 f0
  go_enter Tryd.func71, Tryd.ntmps71
  go_wp2
  go_ret
  exact ⟨rfl, (Below.refl _ _).alloc (Nat.le_refl _) _⟩

/-- A line of words. -/
def lineL (ws : List ByteArray) : List UInt8 := Lib.join (ws.map (·.data.toList)) [32] ++ [10]
end Go.Proofs.YtgjcchafmcccjaaDoor

/- Layer 6 (schema): printLine. -/
namespace Go.Proofs.YtgjcchafmcccjaaDoor
open Go.RowKit Go.Shelf
set_option linter.unusedVariables false

abbrev Bld (B b : Nat) (l : List UInt8) (w : World) : Prop := Lib.IsBuilderF 105 5 B b (Lib.byteCells l) w
theorem Bld.below {B b : Nat} {l : List UInt8} {w w' : World} (h : Bld B b l w) (hb : Below w.heap.size w w') : Bld B b l w' := by
  have go : ∀ p, Lib.BuilderAtF 105 5 B b p (Lib.byteCells l) w → Lib.BuilderAtF 105 5 B b p (Lib.byteCells l) w' := by
    rintro p ⟨hB, v, hv, ho, hne⟩
    exact ⟨hB, v, (hb.block _ (lt_blk hv)).trans hv, World.ownsRowF.kept (row := none) ho ⟨hb.os, hb.tape, hb.output, hb.size, fun k hk _ => hb.block k hk⟩ (by cases v.ownBlock <;> simp), hne⟩
  exact h.elim (fun x => .inl (go _ x)) (fun x => .inr (go _ x))
theorem others_below {e : TypeId} {b : Option Nat} {w w' : World} (hb : Below w.heap.size w w') : Lib.OthersKept e b w w' := fun k o hk _ _ => (hb.block k (lt_blk hk)).trans hk
theorem bytes_snoc (l : List UInt8) (s : ByteArray) : Lib.byteCells l ++ Lib.strCells s = Lib.byteCells (l ++ s.data.toList) := by simp [Lib.byteCells, Lib.strCells]
theorem lit_list (l : List UInt8) : (⟨l.toArray⟩ : ByteArray).data.toList = l := by simp

set_option maxHeartbeats 1000000 in
theorem printLine_calls (B b wb off c : Nat) (ws : List ByteArray) (l : List UInt8) (w : World) (hb : Bld B b l w) (hB : B ≤ w.heap.size) (hc : CellsAt w (some ⟨wb, off, none⟩) (ws.map Value.string)) (hn : 0 < ws.length) (hcap : ws.length ≤ c) (hwl : ws.length ≤ 100) (hlen : l.length + (lineL ws).length ≤ 1000000) :
    Calls Tryd.prog 44 #[.pointer (some ⟨b, 0, none⟩), .slice (some ⟨wb, off, none⟩) ws.length c] w fun e w' => e = .returned (.tuple #[]) ∧ Bld B b (l ++ lineL ws) w' ∧ Below B w w' ∧ Lib.OthersKept 5 (some b) w w' := by
  have hcells : ∀ (j : Nat) x, ws[j]? = some x → w.cell? ⟨wb, off + j, none⟩ = some (.string x) := by
    intro j x hj
    obtain ⟨hjl, rfl⟩ := List.getElem?_eq_some_iff.1 hj
    obtain ⟨b', off', e, hx⟩ := hc.str j hjl
    simp only [Option.some.injEq, Addr.mk.injEq] at e
    obtain ⟨rfl, rfl, _⟩ := e
    exact hx
  have hbk : wb < w.heap.size := World.block_lt_of_cell? w _ (hcells 0 ws[0] (by simp [hn]))
  have hj : (Lib.join (ws.map (·.data.toList)) [32]).length + 1 = (lineL ws).length := by simp [lineL]
  have HJ := Tryd.strings_Join wb off c ws ⟨#[32]⟩ w hcells hbk (by omega) hcap (by show (Lib.join (ws.map (·.data.toList)) [32]).length ≤ _; omega)
  have HJ' : Hid (Calls Tryd.prog 70 #[.slice (some ⟨wb, off, none⟩) ws.length c, .string ⟨#[32]⟩] w fun e w' => e = .returned (.string ⟨(Lib.join (ws.map (·.data.toList)) [32]).toArray⟩) ∧ Below w.heap.size w w') := HJ
  obtain ⟨J, hJ⟩ : ∃ J, J = Lib.join (ws.map (·.data.toList)) [32] := ⟨_, rfl⟩
  rw [← hJ] at hj HJ'
  have HL : Hid (lineL ws = J ++ [10]) := by rw [Hid, hJ]; rfl
  have HB : Hid (Bld B b l w) := hb
  clear HJ hJ hcells hc hb
  go_enter Tryd.func44, Tryd.ntmps44
  go_wp2_with fail
  refine HJ'.out.mono ?_
  rintro e w1 ⟨rfl, hb1⟩
  have HB1 : Hid (Bld B b l w1) := HB.out.below hb1
  have H1 : Hid (Below B w w1 ∧ Lib.OthersKept 5 (some b) w w1) := ⟨hb1.mono hB, others_below hb1⟩
  have hB1 : B ≤ w1.heap.size := Nat.le_trans hB hb1.size
  clear hb1
  go_wp2_with fail
  refine (Tryd.Builder_WriteString_own B b _ ⟨J.toArray⟩ w1 HB1.out (by rw [Lib.byteCells_length]; simp [ByteArray.size]; omega) hB1).mono ?_
  rintro e w2 ⟨rfl, hb2, hl2, ho2⟩
  rw [bytes_snoc, lit_list] at hb2
  have HB2 : Hid (Bld B b (l ++ J) w2) := .inr hb2
  have H2 : Hid (Below B w w2 ∧ Lib.OthersKept 5 (some b) w w2) := ⟨H1.out.1.trans hl2, H1.out.2.trans ho2⟩
  have hB2 : B ≤ w2.heap.size := Nat.le_trans hB1 hl2.size
  clear hb2 hl2 ho2
  go_wp2_with fail
  refine (Tryd.Builder_WriteString_own B b _ ⟨#[10]⟩ w2 HB2.out (by rw [Lib.byteCells_length]; simp [ByteArray.size]; omega) hB2).mono ?_
  rintro e w3 ⟨rfl, hb3, hl3, ho3⟩
  rw [bytes_snoc] at hb3
  have HB3 : Hid (Bld B b (l ++ J ++ [10]) w3) := .inr hb3
  have H3 : Hid (Below B w w3 ∧ Lib.OthersKept 5 (some b) w w3) := ⟨H2.out.1.trans hl3, H2.out.2.trans ho3⟩
  clear hb3 hl3 ho3
  go_wp2
  go_end0
  rw [HL.out, ← List.append_assoc]
  exact ⟨rfl, HB3.out, H3.out⟩
end Go.Proofs.YtgjcchafmcccjaaDoor
