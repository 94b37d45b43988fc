/- Layer 6 (schema): wordOf, fieldName, printLine. -/
import Derived.Test.YtbpmahchinblhaaDoorSField
import Derived.Shelf.Strings.BuilderK
import Derived.Lib.Join
namespace Go.Proofs
theorem Tryd.Builder_WriteString_own : ∀ (B b : Nat) (bs : List Value) (s : ByteArray) (w : World), Lib.IsBuilderF 56 5 B b bs w → bs.length + s.size ≤ 140737488355328 → B ≤ w.heap.size →
    Calls Tryd.prog 30 #[.pointer (some ⟨b, 0, none⟩), .string s] w fun e w' => e = .returned (.tuple #[.int .i64 s.size, .nilIface]) ∧ (Lib.BuilderAtF 56 5 B b (.pointer (some ⟨b, 0, none⟩)) (bs ++ Lib.strCells s) w' ∧ Go.RowKit.Below B w w' ∧ Lib.OthersKept 5 (some b) w w') :=
  fun B b bs s w h1 h2 h3 => Any.Builder_WriteString_k { Tryd.lays156 with } Tryd.Builder_Extra_156 B b bs s w h1 h2 h3
end Go.Proofs
namespace Go.Proofs.YtbpmahchinblhaaDoor
open Go.RowKit Go.Shelf
set_option linter.unusedVariables false

def wordB (k : Int) : ByteArray := if k = 1 then textW else if k = 2 then numW else if k = 3 then listW else ⟨#[]⟩

set_option maxRecDepth 100000 in
set_option maxHeartbeats 1000000 in
theorem wordOf_calls (k : Int) (w : World) (h : KindsAt w) : Calls Tryd.prog 17 #[.int .i64 k] w fun e w' => e = .returned (.string (wordB k)) ∧ Below w.heap.size w w' := by
  obtain ⟨c0, c1, c2, c3, c4, c5⟩ := h
  have i0 := kw_index0
  have i1 := kw_index1
  have i2 := kw_index2
  have HW : Hid (∀ j, wordB j = if j = 1 then textW else if j = 2 then numW else if j = 3 then listW else ⟨#[]⟩) := fun j => rfl
  have q1 : ((1 : Int) == k) = decide (k = 1) := by rw [Bool.eq_iff_iff]; simp; exact eq_comm
  have q2 : ((2 : Int) == k) = decide (k = 2) := by rw [Bool.eq_iff_iff]; simp; exact eq_comm
  have q3 : ((3 : Int) == k) = decide (k = 3) := by rw [Bool.eq_iff_iff]; simp; exact eq_comm
  go_enter Tryd.func17, Tryd.ntmps17
  go_wp2
  go_loopw [6] (fun x wr => ∃ j : Nat, j ≤ 3 ∧ x = .int .i64 j ∧ Hid ((0 < j → k ≠ 1) ∧ (1 < j → k ≠ 2) ∧ (2 < j → k ≠ 3)) ∧ Below w.heap.size w wr) (fun x _ => 3 - (intOf x).toNat)
  case atStart => exact ⟨0, Nat.zero_le _, rfl, ⟨by omega, by omega, by omega⟩, Below.refl _ _⟩
  case round =>
    obtain ⟨j, hj, rfl, HK, hb⟩ := hrel
    have : j = 0 ∨ j = 1 ∨ j = 2 ∨ j = 3 := by omega
    rcases this with rfl | rfl | rfl | rfl
    · by_cases e1 : k = 1
      · have HE : Hid (wordB k = textW) := by rw [Hid, HW.out, if_pos e1]
        rw [decide_eq_true e1] at q1
        clear e1
        go_wp2
        go_ret
        exact ⟨by rw [HE.out]; rfl, hb.alloc hb.size _⟩
      · rw [decide_eq_false e1] at q1
        have HE : Hid (¬ k = 1) := e1
        clear e1
        go_wp2
        go_roundw
        case rel => exact ⟨1, by omega, rfl, ⟨fun _ => HE.out, by omega, by omega⟩, hb.alloc hb.size _⟩
        case measure => simp [intOf]
    · by_cases e1 : k = 2
      · have HE : Hid (wordB k = numW) := by rw [Hid, HW.out, if_neg (HK.out.1 (by omega)), if_pos e1]
        rw [decide_eq_true e1] at q2
        clear e1
        go_wp2
        go_ret
        exact ⟨by rw [HE.out]; rfl, hb.alloc hb.size _⟩
      · rw [decide_eq_false e1] at q2
        have HE : Hid (¬ k = 2) := e1
        clear e1
        go_wp2
        go_roundw
        case rel => exact ⟨2, by omega, rfl, ⟨fun _ => HK.out.1 (by omega), fun _ => HE.out, by omega⟩, hb.alloc hb.size _⟩
        case measure => simp [intOf]
    · by_cases e1 : k = 3
      · have HE : Hid (wordB k = listW) := by rw [Hid, HW.out, if_neg (HK.out.1 (by omega)), if_neg (HK.out.2.1 (by omega)), if_pos e1]
        rw [decide_eq_true e1] at q3
        clear e1
        go_wp2
        go_ret
        exact ⟨by rw [HE.out]; rfl, hb.alloc hb.size _⟩
      · rw [decide_eq_false e1] at q3
        have HE : Hid (¬ k = 3) := e1
        clear e1
        go_wp2
        go_roundw
        case rel => exact ⟨3, by omega, rfl, ⟨fun _ => HK.out.1 (by omega), fun _ => HK.out.2.1 (by omega), fun _ => HE.out⟩, hb.alloc hb.size _⟩
        case measure => simp [intOf]
    · have HE : Hid (wordB k = ⟨#[]⟩) := by rw [Hid, HW.out, if_neg (HK.out.1 (by omega)), if_neg (HK.out.2.1 (by omega)), if_neg (HK.out.2.2 (by omega))]
      go_wp2
      go_ret
      exact ⟨by rw [HE.out]; rfl, hb⟩

set_option maxHeartbeats 1000000 in
theorem fieldName_calls (t : TV) (p : Nat) (w : World) (hf : CellsAt w t.fa (fcs t.fs)) (hp : p < t.fs.length) (hl : t.fs.length ≤ 16) :
    Calls Tryd.prog 32 #[.agg #[.string t.n, .slice t.fa t.fs.length t.fc, .slice t.xa t.xs.length t.xc], .int .i64 (p : Int)] w fun e w' => e = .returned (.string t.fs[p].n) ∧ Below w.heap.size w w' := by
  obtain ⟨b, off, ef, f0, f1⟩ := hf.fld p hp
  rw [ef]
  have f0' : ∀ o, (w.alloc o).cell? ⟨b, off + p * 2, none⟩ = some (.string t.fs[p].n) := fun o => by rw [((Below.refl _ w).alloc (Nat.le_refl _) o).cell (by exact World.block_lt_of_cell? w _ f0)]; exact f0
  have q0 : decide ((p : Int) < 0) = false := by rw [decide_eq_false_iff_not]; omega
  have q1 : decide ((t.fs.length : Int) ≤ (p : Int)) = false := by rw [decide_eq_false_iff_not]; omega
  clear ef hf f1 f0
  go_enter Tryd.func32, Tryd.ntmps32
  go_wp2
  go_ret
  exact ⟨rfl, (Below.refl _ _).alloc (Nat.le_refl _) _⟩

/-- A line of words. -/
def lineL (ws : List ByteArray) : List UInt8 := Lib.join (ws.map (·.data.toList)) [32] ++ [10]
end Go.Proofs.YtbpmahchinblhaaDoor
