/- Layer 6 (schema): refuse, table, endTable, takeFlag, kindOf, hasTable, hasIndex, fieldPlace, allNames, anyTwice. -/
import Derived.Test.YtbpmahchinblhaaDoorSMem
import Derived.Test.YtbpmahchinblhaaDoorSName
import Derived.Test.YtbpmahchinblhaaDoorShelf
import Derived.Recover
namespace Go.Proofs.YtbpmahchinblhaaDoor
open Go.RowKit
set_option linter.unusedVariables false

/-- The reader gives up: the panic's value. -/
def faultV (ln err : Int) : Value := .iface 50 (.agg #[.int .i64 ln, .int .i64 err])

theorem refuse_not (rb : Nat) (err : Int) (w : World) : Calls Tryd.prog 25 #[.pointer (some ⟨rb, 0, none⟩), .bool false, .int .i64 err] w fun e w' => e = .returned (.tuple #[]) ∧ w' = w := by
  go_enter Tryd.func25, Tryd.ntmps25
  go_wp2
  go_end0
  exact ⟨rfl, rfl⟩
theorem refuse_do (rb : Nat) (v : Value) (ln bg err : Int) (w : World) (h : RdAt w rb v ln bg) : Calls Tryd.prog 25 #[.pointer (some ⟨rb, 0, none⟩), .bool true, .int .i64 err] w fun e w' => e = .panicked [{ v := faultV ln err, recovered := false }] ∧ w' = w := by
  have c1 : w.cell? ⟨rb, 1, none⟩ = some (.int .i64 ln) := by rw [cell_blk h]; rfl
  clear h
  go_enter Tryd.func25, Tryd.ntmps25
  go_wp2
  exact ⟨rfl, rfl, rfl⟩

/-- The table of kinds, as the program lays it. -/
structure KindsAt (w : World) : Prop where
  c0 : w.cell? ⟨0, 0, none⟩ = some (.int .i64 1)
  c1 : w.cell? ⟨0, 1, none⟩ = some (.string textW)
  c2 : w.cell? ⟨0, 2, none⟩ = some (.int .i64 2)
  c3 : w.cell? ⟨0, 3, none⟩ = some (.string numW)
  c4 : w.cell? ⟨0, 4, none⟩ = some (.int .i64 3)
  c5 : w.cell? ⟨0, 5, none⟩ = some (.string listW)

theorem beq_toList (a b : ByteArray) : (a.toList == b.toList) = decide (a = b) := by
  rw [ByteArray.toList_eq, ByteArray.toList_eq]
  by_cases h : a = b
  · subst h; simp
  · have : ¬ a.data.toList = b.data.toList := fun e => h (Go.WideShapes.bytes_inj e)
    rw [beq_eq_false_iff_ne.2 this, decide_eq_false h]
theorem beq_lit (a : ByteArray) (l : List UInt8) : (a.toList == l) = decide (a = ⟨l.toArray⟩) := by
  have : l = (⟨l.toArray⟩ : ByteArray).toList := by rw [ByteArray.toList_eq]
  conv => lhs; rw [this]
  exact beq_toList _ _
theorem toList_ne {a b : ByteArray} (h : ¬ a = b) : ¬ a.toList = b.toList := by
  rw [ByteArray.toList_eq, ByteArray.toList_eq]
  exact fun e => h (Go.WideShapes.bytes_inj e)

def kwV : Value := .agg #[.int .i64 1, .string textW, .int .i64 2, .string numW, .int .i64 3, .string listW]
theorem kw_index0 (w : World) : (Instr.index 80 (.agg #[.int .i64 1, .string textW, .int .i64 2, .string numW, .int .i64 3, .string listW]) (.int .i64 0)).run Tryd.prog w = .ok (.agg #[.int .i64 1, .string textW]) w := by
  simp [Instr.index, run_underlying Tryd.underlying80, asIntOf, go_sem]
theorem kw_index1 (w : World) : (Instr.index 80 (.agg #[.int .i64 1, .string textW, .int .i64 2, .string numW, .int .i64 3, .string listW]) (.int .i64 1)).run Tryd.prog w = .ok (.agg #[.int .i64 2, .string numW]) w := by
  simp [Instr.index, run_underlying Tryd.underlying80, asIntOf, go_sem]
theorem kw_index2 (w : World) : (Instr.index 80 (.agg #[.int .i64 1, .string textW, .int .i64 2, .string numW, .int .i64 3, .string listW]) (.int .i64 2)).run Tryd.prog w = .ok (.agg #[.int .i64 3, .string listW]) w := by
  simp [Instr.index, run_underlying Tryd.underlying80, asIntOf, go_sem]

theorem ret_num {a b : Int} (h : a = b) : Ending.returned (.int .i64 a) = .returned (.int .i64 b) := by rw [h]
set_option maxRecDepth 100000 in
set_option maxHeartbeats 1000000 in
theorem kindOf_calls (s : ByteArray) (w : World) (h : KindsAt w) : Calls Tryd.prog 46 #[.string s] w fun e w' => e = .returned (.int .i64 (kindB s)) ∧ Below w.heap.size w w' := by
  obtain ⟨c0, c1, c2, c3, c4, c5⟩ := h
  have i0 := kw_index0
  have i1 := kw_index1
  have i2 := kw_index2
  have q1 : (textW.toList == s.toList) = decide (s = textW) := by rw [beq_toList]; exact decide_eq_decide.2 eq_comm
  have q2 : (numW.toList == s.toList) = decide (s = numW) := by rw [beq_toList]; exact decide_eq_decide.2 eq_comm
  have q3 : (listW.toList == s.toList) = decide (s = listW) := by rw [beq_toList]; exact decide_eq_decide.2 eq_comm
  go_enter Tryd.func46, Tryd.ntmps46
  go_wp2
  go_loopw [6] (fun x wr => ∃ k : Nat, k ≤ 3 ∧ x = .int .i64 k ∧ Hid ((0 < k → s ≠ textW) ∧ (1 < k → s ≠ numW) ∧ (2 < k → s ≠ listW)) ∧ Below w.heap.size w wr) (fun x _ => 3 - (intOf x).toNat)
  case atStart => exact ⟨0, Nat.zero_le _, rfl, ⟨by omega, by omega, by omega⟩, Below.refl _ _⟩
  case round =>
    obtain ⟨k, hk, rfl, HK, hb⟩ := hrel
    have : k = 0 ∨ k = 1 ∨ k = 2 ∨ k = 3 := by omega
    rcases this with rfl | rfl | rfl | rfl
    · by_cases e1 : s = textW
      · have HE : Hid (s = textW) := e1
        rw [decide_eq_true e1] at q1
        clear e1
        go_wp2
        go_ret
        exact ⟨ret_num (by simp [kindB, HE.out]), hb.alloc hb.size _⟩
      · rw [decide_eq_false e1] at q1
        have HE : Hid (¬ s = textW) := e1
        clear e1
        go_wp2
        go_roundw
        case rel => exact ⟨1, by omega, rfl, ⟨fun _ => HE.out, by omega, by omega⟩, hb.alloc hb.size _⟩
        case measure => simp [intOf]
    · by_cases e1 : s = numW
      · have HE : Hid (s = numW) := e1
        rw [decide_eq_true e1] at q2
        clear e1
        go_wp2
        go_ret
        exact ⟨ret_num (by unfold kindB; rw [if_neg (HK.out.1 (by omega)), if_pos HE.out]), hb.alloc hb.size _⟩
      · rw [decide_eq_false e1] at q2
        have HE : Hid (¬ s = numW) := e1
        clear e1
        go_wp2
        go_roundw
        case rel => exact ⟨2, by omega, rfl, ⟨fun _ => HK.out.1 (by omega), fun _ => HE.out, by omega⟩, hb.alloc hb.size _⟩
        case measure => simp [intOf]
    · by_cases e1 : s = listW
      · have HE : Hid (s = listW) := e1
        rw [decide_eq_true e1] at q3
        clear e1
        go_wp2
        go_ret
        exact ⟨ret_num (by unfold kindB; rw [if_neg (HK.out.1 (by omega)), if_neg (HK.out.2.1 (by omega)), if_pos HE.out]), hb.alloc hb.size _⟩
      · rw [decide_eq_false e1] at q3
        have HE : Hid (¬ s = listW) := e1
        clear e1
        go_wp2
        go_roundw
        case rel => exact ⟨3, by omega, rfl, ⟨fun _ => HK.out.1 (by omega), fun _ => HK.out.2.1 (by omega), fun _ => HE.out⟩, hb.alloc hb.size _⟩
        case measure => simp [intOf]
    · go_wp2
      go_ret
      exact ⟨ret_num (by unfold kindB; rw [if_neg (HK.out.1 (by omega)), if_neg (HK.out.2.1 (by omega)), if_neg (HK.out.2.2 (by omega))]), hb⟩

/-- A list of values is searched from the front. -/
theorem any_at {α : Type} (p : α → Bool) (l : List α) (k : Nat) (h : k < l.length) (hp : p l[k] = true) : true = l.any p := (List.any_eq_true.2 ⟨_, List.getElem_mem h, hp⟩).symm
def noneTo {α : Type} (p : α → Bool) (l : List α) (k : Nat) : Prop := ∀ i (h : i < l.length), i < k → p l[i] = false
theorem noneTo.zero {α : Type} (p : α → Bool) (l : List α) : noneTo p l 0 := fun i h h' => by omega
theorem noneTo.succ {α : Type} {p : α → Bool} {l : List α} {k : Nat} (h : noneTo p l k) (hk : k < l.length) (hp : p l[k] = false) : noneTo p l (k + 1) := by
  intro i hi h'
  rcases Nat.lt_or_ge i k with h1 | h1
  · exact h i hi h1
  · obtain rfl : i = k := by omega
    exact hp
theorem noneTo.any {α : Type} {p : α → Bool} {l : List α} {k : Nat} (h : noneTo p l k) (hk : l.length ≤ k) : false = l.any p := by
  symm
  rw [List.any_eq_false]
  intro x hx
  obtain ⟨i, hi, rfl⟩ := List.getElem_of_mem hx
  rw [h i hi (by omega)]
  simp

set_option maxHeartbeats 1000000 in
theorem hasTable_calls (ao : Option Addr) (cap : Nat) (ts : List TV) (n : ByteArray) (w : World) (hl : ts.length ≤ 16) (h : CellsAt w ao (tcs ts)) :
    Calls Tryd.prog 45 #[.slice ao ts.length cap, .string n] w fun e w' => e = .returned (.bool (ts.any fun t => decide (t.n = n))) ∧ Below w.heap.size w w' := by
  go_enter Tryd.func45, Tryd.ntmps45
  go_wp2
  go_loopw [9] (fun x wr => ∃ k : Nat, k ≤ ts.length ∧ x = .int .i64 k ∧ Hid (noneTo (fun t => decide (t.n = n)) ts k) ∧ Below w.heap.size w wr) (fun x _ => ts.length - (intOf x).toNat)
  case atStart => exact ⟨0, Nat.zero_le _, rfl, noneTo.zero _ _, Below.refl _ _⟩
  case round =>
    obtain ⟨k, hk, rfl, HK, hb⟩ := hrel
    by_cases hlt : k < ts.length
    · obtain ⟨b, off, rfl, c0, c1, c2⟩ := (h.below hb).tab k hlt
      by_cases e1 : ts[k].n = n
      · have HE : Hid (true = ts.any fun t => decide (t.n = n)) := any_at _ _ k hlt (by simpa using e1)
        have q1 : (ts[k].n.toList == n.toList) = true := by rw [beq_toList]; simpa using e1
        clear e1
        go_wp2
        go_ret
        exact ⟨ret_bool HE.out, hb.alloc hb.size _⟩
      · have HE : Hid (decide (ts[k].n = n) = false) := by simpa [Hid] using e1
        have q1 : (ts[k].n.toList == n.toList) = false := by rw [beq_toList]; simpa using e1
        clear e1
        go_wp2
        go_roundw
        case rel => exact ⟨k + 1, by omega, by go_num, HK.out.succ hlt HE.out, hb.alloc hb.size _⟩
        case measure => simp [intOf]; omega
    · go_wp2
      go_ret
      exact ⟨ret_bool (HK.out.any (by omega)), hb⟩
end Go.Proofs.YtbpmahchinblhaaDoor
