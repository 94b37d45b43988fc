/- Layer 9 (records): strings.SplitN at a dot and five. -/
import Derived.Test.YtmkohdepgfahnaaGreatDoorRcSplit
import Derived.Lib.Bytealg
import Derived.Lib.IndexMore
import Derived.Laws.MakeOwn
import Derived.Lib.MinMax
import Derived.Lib.Walk
import Derived.Lib.Strings
import Derived.Laws.Strings3
import Derived.Deep.LoopGhost
import Derived.Deep.OwnRows
namespace Go.Proofs.YtmkohdepgfahnaaGreatDoor
open Go.RowKit
set_option linter.unusedVariables false

set_option maxHeartbeats 1000000 in
set_option maxRecDepth 100000 in
theorem liteIndexByte_calls (s : ByteArray) (w : World) : Calls Tryz.prog 137 #[.string s, .int .u8 46] w fun e w' => e = .returned (.int .i64 (Lib.indexByte s.data.toList 46)) ∧ w' = w := by
  go_enter Tryz.func137, Tryz.ntmps137
  go_wp2
  rw [run_callFunc_extern Tryz.func148 (by kernel_rfl) (by kernel_rfl) (by kernel_rfl) (e := Extern.BytealgIndexByte.indexByte) (by kernel_rfl), Lib.run_indexByteString]
  simp only [Result.andThen]
  rw [Oper.upon_value]
  go_wp2
  go_ret
  exact ⟨rfl, rfl⟩
theorem ix_dot (s : ByteArray) : Lib.indexB s dotB = Lib.indexByte s.data.toList 46 := by
  have := Lib.index_one s.data.toList 46
  exact this
set_option maxHeartbeats 1000000 in
set_option maxRecDepth 100000 in
theorem liteIndex_calls (s : ByteArray) (w : World) : Calls Tryz.prog 119 #[.string s, .string dotB] w fun e w' => e = .returned (.int .i64 (Lib.indexB s dotB)) ∧ w' = w := by
  have HX : Hid (Lib.indexB s dotB = Lib.indexByte s.data.toList 46) := ix_dot s
  go_enter Tryz.func119, Tryz.ntmps119
  unfold dotB
  cases hq : (([46] : List UInt8) == s.toList) with
  | true =>
    have HZ : Hid (Lib.indexByte s.data.toList 46 = 0) := by
      rw [Hid, ← ByteArray.toList_eq, ← beq_iff_eq.1 hq]
      rfl
    go_wp2
    go_ret
    exact ⟨by rw [← HZ.out, ← HX.out]; rfl, rfl⟩
  | false =>
    go_wp2_with fail
    refine (liteIndexByte_calls s w).mono ?_
    rintro e w' ⟨rfl, rfl⟩
    go_wp2
    go_ret
    exact ⟨by rw [← HX.out]; rfl, rfl⟩
set_option maxHeartbeats 1000000 in
theorem sIndex_calls (s : ByteArray) (w : World) : Calls Tryz.prog 101 #[.string s, .string dotB] w fun e w' => e = .returned (.int .i64 (Lib.indexB s dotB)) ∧ w' = w := by
  have HC := liteIndex_calls s w
  generalize dotB = sep at HC ⊢
  go_enter Tryz.func101, Tryz.ntmps101
  go_wp2_with fail
  refine HC.mono ?_
  rintro e w' ⟨rfl, rfl⟩
  go_wp2
  go_ret
  exact ⟨rfl, rfl⟩

theorem dot_size : dotB.size = 1 := rfl
set_option maxHeartbeats 4000000 in
set_option maxRecDepth 100000 in
theorem genSplit_calls (s : ByteArray) (n : Int) (N : Nat) (w : World) (hs : s.size ≤ 140737488351296) (hn5 : n = 5) (hN : (N : Int) = min n ((s.size : Int) + 1)) :
    Calls Tryz.prog 94 #[.string s, .string dotB, .int .i64 0, .int .i64 n] w fun e w' =>
      e = .returned (.slice (some ⟨w.heap.size, 0, none⟩) (Lib.splitB dotB 0 (N - 1) s).length N) ∧ w' = w.alloc (.cells (Lib.cellsOf (Lib.splitB dotB 0 (N - 1) s) N) 9) := by
  have hNs : (N : Int) ≤ (s.size : Int) + 1 := by rw [hN]; exact Int.min_le_right _ _
  have hN5 : (N : Int) ≤ 5 := by rw [hN, hn5]; exact Int.min_le_left _ _
  have hN1 : (1 : Int) ≤ (N : Int) := by rw [hN]; exact Int.le_min.2 ⟨by omega, by omega⟩
  have hmk := run_make_row' (P := Tryz.prog) 49 9 (.string ⟨#[]⟩) 16 Tryz.underlying49 info_str rfl .i64 .i64 N (by omega) (by omega)
  have hmin : min n ((s.size : Int) + 1) = (N : Int) := hN.symm
  have hn0 : (n == 0) = false := by rw [hn5]; rfl
  have hnn : ¬ n < 0 := by omega
  have hnm : n ≤ 9223372036854775807 := by omega
  clear hn5
  have hse : dotB.toList.isEmpty = false := by rw [ByteArray.toList_eq]; rfl
  have hds : dotB.size = 1 := rfl
  have hI : ∀ (x : ByteArray) (w : World), Calls Tryz.prog 101 #[.string x, .string dotB] w fun e w' => e = .returned (.int .i64 (Lib.indexB x dotB)) ∧ w' = w := sIndex_calls
  clear hN
  generalize dotB = sep at *
  go_enter Tryz.func94, Tryz.ntmps94
  go_wp2
  clear hmk
  go_loopg [0, 10] (N - 1) (fun g s0 s10 wr => ∃ (done : List ByteArray) (rest : ByteArray), s0 = .string rest ∧ s10 = .int .i64 done.length ∧ done.length ≤ N - 1 ∧ g = N - 1 - done.length ∧ rest.size ≤ s.size ∧
      wr = w.alloc (.cells (Lib.cellsOf done N) 9) ∧ done ++ Lib.splitB sep 0 (N - 1 - done.length) rest = Lib.splitB sep 0 (N - 1) s)
  case atStart => exact ⟨[], s, rfl, rfl, Nat.zero_le _, rfl, Nat.le_refl _, by rw [Lib.cellsOf_nil]; rfl, rfl⟩
  case round =>
    obtain ⟨done, rest, rfl, rfl, hd, rfl, hrs, rfl, hsp⟩ := hrel
    have hnext : (Lib.cellsOf done N)[done.length]? = some (.string ⟨#[]⟩) := Lib.cellsOf_next (by omega)
    have HS : Hid (done ++ Lib.splitB sep 0 (N - 1 - done.length) rest = Lib.splitB sep 0 (N - 1) s) := hsp
    clear hsp
    have fin : Lib.splitB sep 0 (N - 1 - done.length) rest = [rest] → (Lib.splitB sep 0 (N - 1) s).length = done.length + 1 ∧ (Lib.cellsOf done N).setIfInBounds done.length (.string rest) = Lib.cellsOf (Lib.splitB sep 0 (N - 1) s) N := fun h => by
      have e := HS.out
      rw [h] at e
      rw [← e]
      exact ⟨by simp, Lib.cellsOf_set (by omega) rest⟩
    by_cases hlt : done.length < N - 1
    · have hltz : ((done.length : Nat) : Int) < (N : Int) - 1 := by omega
      rcases Lib.indexB_cases rest sep with hix | ⟨i, hix, hroom⟩
      · go_wp2_with (first | (go_at_call 101; refine (hI rest _).mono ?_; rintro e w' ⟨rfl, hw⟩; rw [hw, hix]))
        go_ret
        obtain ⟨f1, f2⟩ := fin (Lib.splitB_miss sep 0 _ rest hix)
        rw [f1, ← f2]
        exact ⟨by first | rfl | (congr 2 <;> omega), rfl⟩
      · have c0 : ¬ ((i : Int) < 0) := by omega
        have c1 : (0 : Int) ≤ ↑i := by omega
        have c2 : (↑i : Int) ≤ ↑rest.size := by omega
        have c3 : (0 : Int) ≤ ↑i + 1 := by omega
        have c4 : (↑i + 1 : Int) ≤ ↑rest.size := by omega
        go_wp2_with (first | (go_at_call 101; refine (hI rest _).mono ?_; rintro e w' ⟨rfl, hw⟩; rw [hw, hix]))
        go_roundg (N - 1 - (done.length + 1))
        case measure => omega
        case rel =>
          refine ⟨done ++ [rest.extract 0 i], rest.extract (i + 1) rest.size, rfl, by simp, by simp; omega, by simp, by rw [ByteArray.size_extract]; omega, by rw [← Lib.cellsOf_set (by omega)], ?_⟩
          rw [← HS.out, show N - 1 - done.length = (N - 1 - (done.length + 1)) + 1 by omega, Lib.splitB_hit sep 0 _ rest i hix, hds]
          simp
    · have hltz : ¬ (((done.length : Nat) : Int) < (N : Int) - 1) := by omega
      go_wp2
      go_ret
      obtain ⟨f1, f2⟩ := fin (by rw [show N - 1 - done.length = 0 by omega]; rfl)
      rw [f1, ← f2]
      exact ⟨by first | rfl | (congr 2 <;> omega), rfl⟩
theorem splitN_calls (s : ByteArray) (w : World) (hs : s.size ≤ 140737488351296) :
    Calls Tryz.prog 87 #[.string s, .string dotB, .int .i64 5] w fun e w' =>
      e = .returned (.slice (some ⟨w.heap.size, 0, none⟩) (words5 s).length (min 5 (s.size + 1))) ∧ w' = w.alloc (.cells (Lib.cellsOf (words5 s) (min 5 (s.size + 1))) 9) := by
  have HG := genSplit_calls s 5 (min 5 (s.size + 1)) w hs rfl (by omega)
  rw [show Lib.splitB dotB 0 (min 5 (s.size + 1) - 1) s = words5 s from rfl] at HG
  generalize words5 s = ws at *
  generalize min 5 (s.size + 1) = N at *
  generalize dotB = sep at *
  go_enter Tryz.func87, Tryz.ntmps87
  go_wp2_with fail
  refine HG.mono ?_
  rintro e w' ⟨rfl, hw⟩
  rw [hw]
  go_wp2
  go_ret
  exact ⟨rfl, rfl⟩
end Go.Proofs.YtmkohdepgfahnaaGreatDoor
