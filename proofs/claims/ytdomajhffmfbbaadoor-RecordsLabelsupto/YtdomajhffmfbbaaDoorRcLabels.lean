/- Layer 9 (records): RecordsLabels, the walk. -/
import Derived.Test.YtdomajhffmfbbaaDoorRcFixed
import Derived.Test.YtdomajhffmfbbaaDoorRcRefA
namespace Go.Proofs.YtdomajhffmfbbaaDoor
open Go.RowKit
set_option linter.unusedVariables false

attribute [local go_sem] eq_four in
set_option maxRecDepth 100000 in
set_option maxHeartbeats 1000000 in
theorem recordsLabels_calls (s : ByteArray) (w : World) (hs : s.size ≤ 1048576) (hv : Vs w) :
    Calls Tryd.prog 4 #[.string s] w fun e w' => e = .returned (.bool true) ∧ Below w.heap.size w w' := by
  have HV : Hid (Vs w) := hv
  clear hv
  have HA : Hid (∀ w, Calls Tryd.prog 10 #[.string s] w fun e w' => e = .returned (.tuple (adrA s)) ∧ Below w.heap.size w w') := fun w => refAddr_calls s w hs
  have HA2 : Hid (∀ w, Vs w → Calls Tryd.prog 11 #[.string s] w fun e w' => e = .returned (.tuple (adrA s)) ∧ Below w.heap.size w w') := fun w hv => addr_calls s w (by omega) hv
  have HL : Hid (∀ w, Calls Tryd.prog 8 #[.string s] w fun e w' => e = .returned (.tuple #[.string (labT s), .int .i64 (labE s)]) ∧ Below w.heap.size w w') := fun w => refLabel_calls s w (by omega)
  have HL2 : Hid (∀ w, Calls Tryd.prog 9 #[.string s] w fun e w' => e = .returned (.tuple #[.string (labT s), .int .i64 (labE s)]) ∧ Below w.heap.size w w') := fun w => label_calls s w (by omega)
  obtain ⟨a, b, c, d, f, hf⟩ : ∃ a b c d f, adrA s = #[.agg #[.int .u8 a, .int .u8 b, .int .u8 c, .int .u8 d], .int .i64 f] := ⟨_, _, _, _, _, rfl⟩
  rw [hf] at HA HA2
  clear hf
  generalize labT s = l at *
  generalize labE s = le at *
  have q1 : (l.toList == l.toList) = true := beq_self_eq_true _
  have q2 : (le == le) = true := beq_self_eq_true _
  have q3 : (f == f) = true := beq_self_eq_true _
  go_enter Tryd.func4, Tryd.ntmps4
  go_wp2_with fail
  refine (recordsFixed_calls w HV.out).mono ?_
  rintro e w1 ⟨rfl, hb1⟩
  have HB1 : Hid (Below w.heap.size w w1) := hb1
  clear hb1
  go_wp2_with fail
  refine (HL.out w1).mono ?_
  rintro e w2 ⟨rfl, hb2⟩
  have HB2 : Hid (Below w.heap.size w w2) := HB1.out.trans (hb2.mono HB1.out.size)
  clear hb2
  go_wp2_with fail
  refine (HL2.out w2).mono ?_
  rintro e w3 ⟨rfl, hb3⟩
  have HB3 : Hid (Below w.heap.size w w3) := HB2.out.trans (hb3.mono HB2.out.size)
  clear hb3
  go_wp2_with fail
  refine (HA.out w3).mono ?_
  rintro e w4 ⟨rfl, hb4⟩
  have HB4 : Hid (Below w.heap.size w w4) := HB3.out.trans (hb4.mono HB3.out.size)
  clear hb4
  go_wp2_with fail
  have HB5 : Hid (Below w.heap.size w (w4.alloc (.cells #[.int .u8 a, .int .u8 b, .int .u8 c, .int .u8 d] 28))) := HB4.out.alloc HB4.out.size _
  refine (HA2.out _ (HV.out.stay HB5.out)).mono ?_
  rintro e w6 ⟨rfl, hb6⟩
  have HB6 : Hid (Below w.heap.size w w6) := HB5.out.trans (hb6.mono HB5.out.size)
  have hc : ∀ j, w6.cell? ⟨w4.heap.size, j, none⟩ = #[Value.int .u8 a, .int .u8 b, .int .u8 c, .int .u8 d][j]? := fun j => by
    rw [hb6.cell (by show w4.heap.size < (w4.heap.push _).size; rw [Array.size_push]; omega)]
    exact World.cell?_alloc_new _ _ _ _
  have c0 := hc 0
  have c1 := hc 1
  have c2 := hc 2
  have c3 := hc 3
  simp at c0 c1 c2 c3
  have hlt : w4.heap.size < w6.heap.size := by
    have := hb6.size
    have h2 : (w4.alloc (.cells #[.int .u8 a, .int .u8 b, .int .u8 c, .int .u8 d] 28)).heap.size = w4.heap.size + 1 := by show (w4.heap.push _).size = _; rw [Array.size_push]
    omega
  clear hb6 hc
  go_wp2
  go_ret
  exact ⟨rfl, HB6.out.alloc HB6.out.size _⟩
end Go.Proofs.YtdomajhffmfbbaaDoor
