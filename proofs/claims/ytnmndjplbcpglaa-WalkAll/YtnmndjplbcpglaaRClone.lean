/- strings.Clone, slices.Grow of nil. -/
import Derived.Test.YtnmndjplbcpglaaRMem
import Derived.Lib.BufferWrite
import Derived.Lib.UnsafeStr
import Derived.Lib.AppendZerosOnto
import Derived.Lib.SliceRun
import Derived.Lib.Walk
import Derived.Lib.Strings
import Derived.Laws.MakeOwn
namespace Go.Proofs.Ytnmndjplbcpglaa
open Go.RowKit
set_option linter.unusedVariables false

theorem infoU8 : (Try.prog.info? 5).map (fun i => (i.zero, i.size, i.bytes)) = some (some (.int .u8 0), 1, 1) := by kernel_rfl

set_option maxHeartbeats 4000000 in
set_option maxRecDepth 100000 in
/-- A copy of a text is the text. -/
theorem cloneL_calls (s : ByteArray) (w : World) (hs : s.size ≤ 140737488355328) :
    Calls Try.prog 72 #[.string s] w fun e w' => e = .returned (.string s) ∧ Below w.heap.size w w' := by
  by_cases h0 : s.size = 0
  · have e : s = ⟨#[]⟩ := ByteArray.ext (Array.eq_empty_of_size_eq_zero h0)
    subst e
    go_enter Try.func72, Try.ntmps72
    go_wp2
    go_ret
    exact ⟨rfl, Below.refl _ _⟩
  obtain ⟨i0, hi, hz0, hz1, hz2⟩ := infoOf infoU8
  have hsize : (Try.prog.info? 5).map (·.size) = some 1 := by rw [hi]; simp [hz1]
  have hco : Try.prog.cellsOf 5 = 1 := by simp [Program.cellsOf, hi, hz1]
  obtain ⟨M, HM⟩ : ∃ M, M = madeCells (Value.int .u8 0).cells (((s.size : Nat) : Int).toNat * i0.size) := ⟨_, rfl⟩
  have hMs : M.size = s.size := by rw [HM, size_madeCells, hz1]; simp
  have hmake : ∀ W : World, (Instr.makeSlice 144 (.int .i64 (s.size : Int)) (.int .i64 (s.size : Int))).run Try.prog W = .ok (.slice (some ⟨W.heap.size, 0, none⟩) s.size s.size) (W.alloc (.cells M 5)) := fun W => by
    have h := run_make (P := Try.prog) W 144 5 i0 (.int .u8 0) Try.underlying144 hi hz0 .i64 .i64 (s.size : Int) (s.size : Int) (by omega) (by omega) (by rw [hz2]; omega) (by omega)
    rw [← HM] at h
    simpa using h
  clear HM
  have hcopy := Lib.run_copy_row_string (P := Try.prog) (w.alloc (.cells M 5)) 144 9 3 5 w.heap.size 0 s.size s.size s M 5 Try.underlying144 hsize (heap_alloc_new w _) (Nat.le_refl _) (by omega)
  obtain ⟨Y, HY⟩ : ∃ Y, Y = (M.toList.take 0 ++ Lib.byteCells s.data.toList ++ M.toList.drop (0 + s.size)).toArray := ⟨_, rfl⟩
  rw [← HY] at hcopy
  have hYl : Y.toList = Lib.byteCells s.data.toList := by
    rw [HY, List.toList_toArray, List.take_zero, List.nil_append, List.drop_of_length_le (by rw [Array.length_toList]; omega), List.append_nil]
  have hYs : Y.size = s.size := by rw [← Array.length_toList, hYl, Lib.byteCells_length, ← Lib.size_eq]
  have hYb : ((w.alloc (.cells M 5)).setRow w.heap.size Y).heap[w.heap.size]? = some (.cells Y 5 (0, 0)) := setRow_heap _ _ M _ 5 (0, 0) (heap_alloc_new w _)
  have hne : s.data.toList ≠ [] := fun e => h0 (by rw [Lib.size_eq, e]; rfl)
  have hstr := Lib.run_unsafeString_row (P := Try.prog) ((w.alloc (.cells M 5)).setRow w.heap.size Y) 145 3 9 5 Try.underlying145 hco w.heap.size Y.size (by unfold World.shape?; rw [hYb]) s.data.toList hne (by rw [← Lib.size_eq]; omega) (by rw [← Lib.size_eq]; omega)
    (fun j x hx => Lib.cells_of_row hYb Y.size j _ (by rw [List.take_of_length_le (by rw [Array.length_toList]; exact Nat.le_refl _), hYl]; simp [Lib.byteCells, hx]))
  rw [← Lib.size_eq] at hstr
  clear HY
  go_enter Try.func72, Try.ntmps72
  go_wp2
  go_ret
  have hb1 : Below w.heap.size w (w.alloc (.cells M 5)) := (Below.refl _ w).alloc (Nat.le_refl _) _
  have hb2 : Below w.heap.size (w.alloc (.cells M 5)) ((w.alloc (.cells M 5)).setRow w.heap.size Y) := ⟨rfl, rfl, rfl, by simp, fun k hk => setRow_other _ _ _ _ (by omega)⟩
  exact ⟨rfl, Lib.below_freeze (hb1.trans hb2) (p := ⟨w.heap.size, 0, none⟩) (Nat.le_refl _) _⟩

theorem clone_calls (s : ByteArray) (w : World) (hs : s.size ≤ 140737488355328) :
    Calls Try.prog 51 #[.string s] w fun e w' => e = .returned (.string s) ∧ Below w.heap.size w w' := by
  have H := cloneL_calls s w hs
  clear hs
  go_enter Try.func51, Try.ntmps51
  go_wp2_with fail
  refine H.mono ?_
  clear H
  rintro e w1 ⟨rfl, hb⟩
  go_wp2
  go_ret
  exact ⟨rfl, hb⟩

theorem infoPN' : (Try.prog.info? 61).map (fun i => (i.zero, i.size, i.bytes)) = some (some (.pointer none), 1, 8) := by kernel_rfl

set_option maxHeartbeats 4000000 in
set_option maxRecDepth 100000 in
/-- Grow of nil: an empty slice of its own. -/
theorem grow_calls (n : Nat) (w : World) (hn : n ≤ 1000) :
    Calls Try.prog 75 #[.slice none 0 0, .int .i64 n] w fun e w' => ∃ v, e = .returned v ∧ OwnV w' w.heap.size 61 v [] ∧ Below w.heap.size w w' ∧ ∃ ao cap, v = .slice ao 0 cap := by
  by_cases h0 : n = 0
  · subst h0
    go_enter Try.func75, Try.ntmps75
    go_wp2
    go_ret
    exact ⟨_, rfl, OwnV.nil _ _ _, Below.refl _ _, _, _, rfl⟩
  obtain ⟨i0, hi, hz0, hz1, hz2⟩ := infoOf infoPN'
  have hG1 := grownCap_ge w n 0 61
  have hG2 := grownCap_le_maxLen w n 0 61 (by unfold maxLen; omega)
  have hrun := Lib.run_append_grow_zeros (P := Try.prog) w 66 3 66 61 i0 (.pointer none) .i64 .i64 Try.underlying66 Try.underlying3 hi hz0 none 0 0 []
    (run_firstCells_none w.drew i0.size 0 0 0) n (by omega) (by omega) (by omega) (by omega) (by rw [hz2]; omega) (by simp only [Nat.zero_add]; exact growslice_fits (by omega) (by rw [hz2]; omega))
  simp only [Nat.zero_add] at hrun
  obtain ⟨G, hG⟩ : ∃ G, G = grownCap w n 0 61 := ⟨_, rfl⟩
  rw [← hG] at hrun hG1 hG2
  clear hG
  obtain ⟨Z, HZ⟩ : ∃ Z : Array Value, Hid (Z = (#[] : Array Value) ++ Builtin.zeroCells (Value.pointer none).cells n ++ Builtin.zeroCells (Value.pointer none).cells (G - n)) := ⟨_, rfl⟩
  have hZs : Z.size = G := by rw [HZ.out]; simp [Builtin.zeroCells, Value.cells]; omega
  have hrun' : (Builtin.append_ #[66, 3] 66 #[.slice none 0 0, .int .i64 n]).run Try.prog w = .ok (.slice (some ⟨w.heap.size, 0, none⟩) n G) (w.drew.alloc (.cells Z 61)) := by rw [HZ.out]; exact hrun
  clear hrun HZ
  have hg63 : G ≤ 9223372036854775807 := by unfold maxLen at hG2; omega
  go_enter Try.func75, Try.ntmps75
  go_wp2_with (at_builtin; refine Lib.wpList_append_run _ rfl _ _ _ _ rfl _ _ rfl rfl _ _ hrun' ?_)
  go_ret
  refine ⟨_, rfl, ?_, (Below.refl _ w).drew.alloc (Nat.le_refl _) _, _, _, rfl⟩
  refine ⟨by simp, .inr ⟨w.heap.size, G, Z, rfl, Nat.le_refl _, heap_alloc_new w.drew _, by simp, hG2, by simp [hZs], by simp⟩⟩
end Go.Proofs.Ytnmndjplbcpglaa
