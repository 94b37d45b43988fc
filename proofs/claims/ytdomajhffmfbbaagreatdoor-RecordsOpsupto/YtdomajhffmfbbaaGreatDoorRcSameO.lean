/- Layer 9 (records): the document's SameOp, of operations that are alike. -/
import Derived.Test.YtdomajhffmfbbaaGreatDoorRcOpL
import Derived.Test.YtdomajhffmfbbaaGreatDoorRcCopyS
namespace Go.Proofs.YtdomajhffmfbbaaGreatDoor
open Go.RowKit
set_option linter.unusedVariables false

set_option maxRecDepth 100000 in
set_option maxHeartbeats 4000000 in
theorem sameOp_calls (o : Opp) (ta tb : Option Addr) (tc td : Nat) (w : World) (hl : o.svc.tags.length ≤ 8796093022208) (ha : CellsAt w ta (o.svc.tags.map Value.string)) (hb : CellsAt w tb (o.svc.tags.map Value.string)) :
    Calls Tryz.prog 17 #[.agg (o.v (.slice ta o.svc.tags.length tc)), .agg (o.v (.slice tb o.svc.tags.length td))] w fun e w' => e = .returned (.bool true) ∧ Below w.heap.size w w' := by
  have HT : Hid (∀ w', Below w.heap.size w w' → Calls Tryz.prog 12 #[.agg (o.svc.v (.slice ta o.svc.tags.length tc)), .agg (o.svc.v (.slice tb o.svc.tags.length td))] w' fun e w'' => e = .returned (.bool true) ∧ Below w'.heap.size w' w'') := fun w' h => sameService_calls o.svc ta tb tc td w' hl (ha.below h) (hb.below h)
  clear ha hb
  obtain ⟨kd, ⟨nn, na, n3, n4⟩, ⟨sn, si, sm, sp, tg, s6, s7⟩, ⟨cn, ci, cs, ct, ce, c6, c7⟩, cb, wt⟩ := o
  simp only [Opp.v, Sp.v] at *
  generalize tg.length = tl at *
  have q0 : (nn.toList == nn.toList) = true := beq_self_eq_true _
  have q1 : (na.toList == na.toList) = true := beq_self_eq_true _
  have q2 : (cn.toList == cn.toList) = true := beq_self_eq_true _
  have q3 : (ci.toList == ci.toList) = true := beq_self_eq_true _
  have q4 : (cs.toList == cs.toList) = true := beq_self_eq_true _
  have q5 : (ce.toList == ce.toList) = true := beq_self_eq_true _
  have q6 : (kd == kd) = true := beq_self_eq_true _
  have q7 : (n3 == n3) = true := beq_self_eq_true _
  have q8 : (n4 == n4) = true := beq_self_eq_true _
  have q9 : (ct == ct) = true := beq_self_eq_true _
  have q10 : (c6 == c6) = true := beq_self_eq_true _
  have q11 : (c7 == c7) = true := beq_self_eq_true _
  have q12 : (cb == cb) = true := beq_self_eq_true _
  have q13 : (wt == wt) = true := beq_self_eq_true _
  obtain ⟨w2, Hw2⟩ : ∃ w2, Hid (w2 = (w.alloc (.cells #[.int .i64 kd, .string nn, .string na, .int .u64 n3, .int .u64 n4, .string sn, .string si, .string sm, .int .i64 sp, .slice ta tl tc, .int .u64 s6, .int .u64 s7, .string cn, .string ci, .string cs, .int .i64 ct, .string ce, .int .u64 c6, .int .u64 c7, .bool cb, .int .u64 wt] 48)).alloc (.cells #[.int .i64 kd, .string nn, .string na, .int .u64 n3, .int .u64 n4, .string sn, .string si, .string sm, .int .i64 sp, .slice tb tl td, .int .u64 s6, .int .u64 s7, .string cn, .string ci, .string cs, .int .i64 ct, .string ce, .int .u64 c6, .int .u64 c7, .bool cb, .int .u64 wt] 48)) := ⟨_, rfl⟩
  have hz : (w.alloc (.cells #[.int .i64 kd, .string nn, .string na, .int .u64 n3, .int .u64 n4, .string sn, .string si, .string sm, .int .i64 sp, .slice ta tl tc, .int .u64 s6, .int .u64 s7, .string cn, .string ci, .string cs, .int .i64 ct, .string ce, .int .u64 c6, .int .u64 c7, .bool cb, .int .u64 wt] 48)).heap.size = w.heap.size + 1 := size_new _ _
  have HX2 : Hid (Blk w2 w.heap.size #[.int .i64 kd, .string nn, .string na, .int .u64 n3, .int .u64 n4, .string sn, .string si, .string sm, .int .i64 sp, .slice ta tl tc, .int .u64 s6, .int .u64 s7, .string cn, .string ci, .string cs, .int .i64 ct, .string ce, .int .u64 c6, .int .u64 c7, .bool cb, .int .u64 wt] 48) := by rw [Hw2.out]; exact (Blk.new _ _ _).alloc _
  have HY2 : Hid (Blk w2 (w.heap.size + 1) #[.int .i64 kd, .string nn, .string na, .int .u64 n3, .int .u64 n4, .string sn, .string si, .string sm, .int .i64 sp, .slice tb tl td, .int .u64 s6, .int .u64 s7, .string cn, .string ci, .string cs, .int .i64 ct, .string ce, .int .u64 c6, .int .u64 c7, .bool cb, .int .u64 wt] 48) := by rw [Hw2.out, ← hz]; exact Blk.new _ _ _
  have HB2 : Hid (Below w.heap.size w w2) := by rw [Hw2.out]; exact (below_new w _).alloc (by rw [hz]; omega) _
  clear hz
  go_enter Tryz.func17, Tryz.ntmps17
  go_upto_region 1 with fail
  rw [← Hw2.out]
  clear Hw2
  have x0 := HX2.out.cell 0 rfl
  have y0 := HY2.out.cell 0 rfl
  have x1 := HX2.out.cell 1 rfl
  have y1 := HY2.out.cell 1 rfl
  have x2 := HX2.out.cell 2 rfl
  have y2 := HY2.out.cell 2 rfl
  have x3 := HX2.out.cell 3 rfl
  have y3 := HY2.out.cell 3 rfl
  have x4 := HX2.out.cell 4 rfl
  have y4 := HY2.out.cell 4 rfl
  have x5 := HX2.out.cell 5 rfl
  have y5 := HY2.out.cell 5 rfl
  have x6 := HX2.out.cell 6 rfl
  have y6 := HY2.out.cell 6 rfl
  have x7 := HX2.out.cell 7 rfl
  have y7 := HY2.out.cell 7 rfl
  have x8 := HX2.out.cell 8 rfl
  have y8 := HY2.out.cell 8 rfl
  have x9 := HX2.out.cell 9 rfl
  have y9 := HY2.out.cell 9 rfl
  have x10 := HX2.out.cell 10 rfl
  have y10 := HY2.out.cell 10 rfl
  have x11 := HX2.out.cell 11 rfl
  have y11 := HY2.out.cell 11 rfl
  go_wp2_with fail
  clear x0 y0 x1 y1 x2 y2 x3 y3 x4 y4 x5 y5 x6 y6 x7 y7 x8 y8 x9 y9 x10 y10 x11 y11
  refine (HT.out w2 HB2.out).mono ?_
  rintro e w3 ⟨rfl, hb3⟩
  have x12 := (HX2.out.below hb3).cell 12 rfl
  have y12 := (HY2.out.below hb3).cell 12 rfl
  have x13 := (HX2.out.below hb3).cell 13 rfl
  have y13 := (HY2.out.below hb3).cell 13 rfl
  have x14 := (HX2.out.below hb3).cell 14 rfl
  have y14 := (HY2.out.below hb3).cell 14 rfl
  have x15 := (HX2.out.below hb3).cell 15 rfl
  have y15 := (HY2.out.below hb3).cell 15 rfl
  have x16 := (HX2.out.below hb3).cell 16 rfl
  have y16 := (HY2.out.below hb3).cell 16 rfl
  have x17 := (HX2.out.below hb3).cell 17 rfl
  have y17 := (HY2.out.below hb3).cell 17 rfl
  have x18 := (HX2.out.below hb3).cell 18 rfl
  have y18 := (HY2.out.below hb3).cell 18 rfl
  have x19 := (HX2.out.below hb3).cell 19 rfl
  have y19 := (HY2.out.below hb3).cell 19 rfl
  have x20 := (HX2.out.below hb3).cell 20 rfl
  have y20 := (HY2.out.below hb3).cell 20 rfl
  have HB3 : Hid (Below w.heap.size w w3) := HB2.out.trans (hb3.mono HB2.out.size)
  clear hb3 HX2 HY2 HB2 HT
  go_wp2
  go_ret
  exact ⟨rfl, HB3.out⟩
end Go.Proofs.YtdomajhffmfbbaaGreatDoor
