import Derived.Test.YtmkohdepgfahnaaGreatDoorJPay
import Derived.Test.YtmkohdepgfahnaaGreatDoorJEqT
import Derived.Test.YtmkohdepgfahnaaGreatDoorRcSameT
import Derived.Laws.StructEq
/- Layer 13 (journal): sameService. -/
namespace Go.Proofs.YtmkohdepgfahnaaGreatDoor
open Go.RowKit
set_option linter.unusedVariables false
set_option linter.unusedSimpArgs false

set_option maxRecDepth 100000 in
set_option maxHeartbeats 2000000 in
theorem jsameService_calls (a b : Sp) (ta tb : Option Addr) (ca cb : Nat) (w : World) (hla : a.tags.length ≤ 140737488355328) (hlb : b.tags.length ≤ 140737488355328) (ha : CellsAt w ta (a.tags.map Value.string)) (hb : CellsAt w tb (b.tags.map Value.string)) :
    Calls Tryz.prog 72 #[.agg (a.v (.slice ta a.tags.length ca)), .agg (b.v (.slice tb b.tags.length cb))] w fun e w' => e = .returned (.bool (sameS a b)) ∧ Below w.heap.size w w' := by
  have HT : Hid (∀ w', Below w.heap.size w w' → Calls Tryz.prog 86 #[.slice ta a.tags.length ca, .slice tb b.tags.length cb] w' fun e w'' => e = .returned (.bool (decide (a.tags = b.tags))) ∧ ∃ n, w'' = w'.drewN n) := fun w' h => equalT_calls ta tb ca cb a.tags b.tags w' hla hlb (ha.below h) (hb.below h)
  clear ha hb hla hlb
  obtain ⟨R, HR⟩ : ∃ x, Hid (x = sameS a b) := ⟨_, rfl⟩
  rw [← HR.out]
  obtain ⟨an, ai, am, ap, at_, ax, ay⟩ := a
  obtain ⟨bn, bi, bm, bp, bt_, bx, by_⟩ := b
  simp only [Sp.v] at *
  obtain ⟨la, Hla⟩ : ∃ x, Hid (x = at_.length) := ⟨_, rfl⟩
  obtain ⟨lb, Hlb⟩ : ∃ x, Hid (x = bt_.length) := ⟨_, rfl⟩
  rw [← Hla.out, ← Hlb.out] at HT ⊢
  clear Hla Hlb
  obtain ⟨w2, Hw2⟩ : ∃ w2, Hid (w2 = (w.alloc (.cells #[.string an, .string ai, .string am, .int .i64 ap, .slice ta la ca, .int .u64 ax, .int .u64 ay] 51)).alloc (.cells #[.string bn, .string bi, .string bm, .int .i64 bp, .slice tb lb cb, .int .u64 bx, .int .u64 by_] 51)) := ⟨_, rfl⟩
  have hz : (w.alloc (.cells #[.string an, .string ai, .string am, .int .i64 ap, .slice ta la ca, .int .u64 ax, .int .u64 ay] 51)).heap.size = w.heap.size + 1 := size_new _ _
  have HX : Hid (Blk w2 w.heap.size #[.string an, .string ai, .string am, .int .i64 ap, .slice ta la ca, .int .u64 ax, .int .u64 ay] 51) := by rw [Hw2.out]; exact (Blk.new _ _ _).alloc _
  have HY : Hid (Blk w2 (w.heap.size + 1) #[.string bn, .string bi, .string bm, .int .i64 bp, .slice tb lb cb, .int .u64 bx, .int .u64 by_] 51) := by rw [Hw2.out, ← hz]; exact Blk.new _ _ _
  have HB : Hid (Below w.heap.size w w2) := by rw [Hw2.out]; exact (below_new w _).alloc (by rw [hz]; omega) _
  clear hz
  go_enter Tryz.func72, Tryz.ntmps72
  go_upto_region 1 with fail
  rw [← Hw2.out]
  clear Hw2
  have x0 := HX.out.cell 0 rfl
  have y0 := HY.out.cell 0 rfl
  have x1 := HX.out.cell 1 rfl
  have y1 := HY.out.cell 1 rfl
  have x2 := HX.out.cell 2 rfl
  have y2 := HY.out.cell 2 rfl
  have x3 := HX.out.cell 3 rfl
  have y3 := HY.out.cell 3 rfl
  have x4 := HX.out.cell 4 rfl
  have y4 := HY.out.cell 4 rfl
  have x5 := HX.out.cell 5 rfl
  have y5 := HY.out.cell 5 rfl
  have x6 := HX.out.cell 6 rfl
  have y6 := HY.out.cell 6 rfl
  cases q0 : (an.toList == bn.toList) with
  | false =>
    have d0 : decide (an = bn) = false := by rw [← beq_toList]; exact q0
    have HF : Hid (R = false) := by
      show _ = _
      rw [HR.out]
      simp only [sameS, d0, Bool.true_and, Bool.and_true, Bool.false_and, Bool.and_false]
    clear HR d0
    go_wp2
    go_ret
    exact ⟨by rw [HF.out]; rfl, HB.out⟩
  | true =>
    have d0 : decide (an = bn) = true := by rw [← beq_toList]; exact q0
    cases q1 : (ai.toList == bi.toList) with
    | false =>
      have d1 : decide (ai = bi) = false := by rw [← beq_toList]; exact q1
      have HF : Hid (R = false) := by
        show _ = _
        rw [HR.out]
        simp only [sameS, d0, d1, Bool.true_and, Bool.and_true, Bool.false_and, Bool.and_false]
      clear HR d0 d1
      go_wp2
      go_ret
      exact ⟨by rw [HF.out]; rfl, HB.out⟩
    | true =>
      have d1 : decide (ai = bi) = true := by rw [← beq_toList]; exact q1
      cases q2 : (am.toList == bm.toList) with
      | false =>
        have d2 : decide (am = bm) = false := by rw [← beq_toList]; exact q2
        have HF : Hid (R = false) := by
          show _ = _
          rw [HR.out]
          simp only [sameS, d0, d1, d2, Bool.true_and, Bool.and_true, Bool.false_and, Bool.and_false]
        clear HR d0 d1 d2
        go_wp2
        go_ret
        exact ⟨by rw [HF.out]; rfl, HB.out⟩
      | true =>
        have d2 : decide (am = bm) = true := by rw [← beq_toList]; exact q2
        cases q3 : (ap == bp) with
        | false =>
          have d3 := q3
          have HF : Hid (R = false) := by
            show _ = _
            rw [HR.out]
            simp only [sameS, d0, d1, d2, d3, Bool.true_and, Bool.and_true, Bool.false_and, Bool.and_false]
          clear HR d0 d1 d2 d3
          go_wp2
          go_ret
          exact ⟨by rw [HF.out]; rfl, HB.out⟩
        | true =>
          have d3 := q3
          go_wp2_with fail
          clear x0 y0 x1 y1 x2 y2 x3 y3 x4 y4 x5 y5 x6 y6
          refine (HT.out w2 HB.out).mono ?_
          rintro e w3 ⟨rfl, hd⟩
          have hb3 : Below w2.heap.size w2 w3 := by obtain ⟨n, rfl⟩ := hd; exact below_draws _ _
          clear hd
          have x5 := (HX.out.below hb3).cell 5 rfl
          have y5 := (HY.out.below hb3).cell 5 rfl
          have x6 := (HX.out.below hb3).cell 6 rfl
          have y6 := (HY.out.below hb3).cell 6 rfl
          have HB3 : Hid (Below w.heap.size w w3) := HB.out.trans (hb3.mono HB.out.size)
          clear hb3 HX HY HB HT
          cases d4 : decide (at_ = bt_) with
          | false =>
            have HF : Hid (R = false) := by
              show _ = _
              rw [HR.out]
              simp only [sameS, d0, d1, d2, d3, d4, Bool.true_and, Bool.and_true, Bool.false_and, Bool.and_false]
            clear HR
            go_wp2
            go_ret
            exact ⟨by rw [HF.out]; rfl, HB3.out⟩
          | true =>
            cases q5 : (ax == bx) with
            | false =>
              have d5 := q5
              have HF : Hid (R = false) := by
                show _ = _
                rw [HR.out]
                simp only [sameS, d0, d1, d2, d3, d4, d5, Bool.true_and, Bool.and_true, Bool.false_and, Bool.and_false]
              clear HR d0 d1 d2 d3 d5
              go_wp2
              go_ret
              exact ⟨by rw [HF.out]; rfl, HB3.out⟩
            | true =>
              have d5 := q5
              cases q6 : (ay == by_) with
              | false =>
                have d6 := q6
                have HF : Hid (R = false) := by
                  show _ = _
                  rw [HR.out]
                  simp only [sameS, d0, d1, d2, d3, d4, d5, d6, Bool.true_and, Bool.and_true, Bool.false_and, Bool.and_false]
                clear HR d0 d1 d2 d3 d5 d6
                go_wp2
                go_ret
                exact ⟨by rw [HF.out]; rfl, HB3.out⟩
              | true =>
                have d6 := q6
                have HF : Hid (R = true) := by
                  show _ = _
                  rw [HR.out]
                  simp only [sameS, d0, d1, d2, d3, d4, d5, d6, Bool.and_self]
                clear HR
                go_wp2
                go_ret
                exact ⟨by rw [HF.out]; rfl, HB3.out⟩
end Go.Proofs.YtmkohdepgfahnaaGreatDoor

/- Layer 13 (journal): == of nodes and of checks. -/
namespace Go.Proofs.YtmkohdepgfahnaaGreatDoor
open Go.RowKit
set_option linter.unusedVariables false
set_option linter.unusedSimpArgs false

theorem txt_dec (a b : ByteArray) : decide (a = b) = decide (a.toList = b.toList) := by
  rw [← beq_toList]
  by_cases h : a.toList = b.toList <;> simp [h]
set_option maxRecDepth 100000 in
theorem run_eql_node (a b : Nd) (w : World) : (binOp .eql 48 (.agg a.v) (.agg b.v)).run Tryz.prog w = .ok (.bool (sameN a b)) w := by
  obtain ⟨a1, a2, a3, a4⟩ := a
  obtain ⟨b1, b2, b3, b4⟩ := b
  have h : (Op.equalIn 10000 48 (.agg #[.string a1, .string a2, .int .u64 a3, .int .u64 a4]) (.agg #[.string b1, .string b2, .int .u64 b3, .int .u64 b4])).run Tryz.prog w = .ok (sameN ⟨a1, a2, a3, a4⟩ ⟨b1, b2, b3, b4⟩) w := by
    have u9 := Tryz.underlying9
    have a9 := Tryz.isAgg9
    have u42 := Tryz.underlying28
    have a42 := Tryz.isAgg28
    have hS : Tryz.prog.underlying 48 = some (.struct (Tryz.prog.fieldsOf 48)) := by kernel_rfl
    have hp : Tryz.prog.stoodInHeld 48 = false := by kernel_rfl
    rw [show (10000 : Nat) = 9999 + 1 from rfl, run_equalIn_agg w 9999 48 _ _ hS hp]
    simp only [Program.fieldsOf, Tryz.underlying48]
    go_simp
    simp only [sameN, txt_dec]
    by_cases h1 : a1.toList = b1.toList <;> by_cases h2 : a2.toList = b2.toList <;> by_cases h3 : a3 = b3 <;> by_cases h4 : a4 = b4 <;> simp [h1, h2, h3, h4]
  show (binOp .eql 48 (.agg #[.string a1, .string a2, .int .u64 a3, .int .u64 a4]) (.agg #[.string b1, .string b2, .int .u64 b3, .int .u64 b4])).run Tryz.prog w = _
  rw [run_eql_struct, h]; rfl
set_option maxRecDepth 100000 in
theorem run_eql_chk (a b : Ck) (w : World) : (binOp .eql 53 (.agg a.v) (.agg b.v)).run Tryz.prog w = .ok (.bool (sameC a b)) w := by
  obtain ⟨a1, a2, a3, a4, a5, a6, a7⟩ := a
  obtain ⟨b1, b2, b3, b4, b5, b6, b7⟩ := b
  have h : (Op.equalIn 10000 53 (.agg #[.string a1, .string a2, .string a3, .int .i64 a4, .string a5, .int .u64 a6, .int .u64 a7]) (.agg #[.string b1, .string b2, .string b3, .int .i64 b4, .string b5, .int .u64 b6, .int .u64 b7])).run Tryz.prog w = .ok (sameC ⟨a1, a2, a3, a4, a5, a6, a7⟩ ⟨b1, b2, b3, b4, b5, b6, b7⟩) w := by
    have u3 := Tryz.underlying3
    have a3' := Tryz.isAgg3
    have u9 := Tryz.underlying9
    have a9 := Tryz.isAgg9
    have u42 := Tryz.underlying28
    have a42 := Tryz.isAgg28
    have hS : Tryz.prog.underlying 53 = some (.struct (Tryz.prog.fieldsOf 53)) := by kernel_rfl
    have hp : Tryz.prog.stoodInHeld 53 = false := by kernel_rfl
    rw [show (10000 : Nat) = 9999 + 1 from rfl, run_equalIn_agg w 9999 53 _ _ hS hp]
    simp only [Program.fieldsOf, Tryz.underlying53]
    go_simp
    simp only [sameC, txt_dec]
    by_cases h1 : a1.toList = b1.toList <;> by_cases h2 : a2.toList = b2.toList <;> by_cases h3 : a3.toList = b3.toList <;> by_cases h4 : a4 = b4 <;> by_cases h5 : a5.toList = b5.toList <;> by_cases h6 : a6 = b6 <;> by_cases h7 : a7 = b7 <;> simp [h1, h2, h3, h4, h5, h6, h7]
  show (binOp .eql 53 (.agg #[.string a1, .string a2, .string a3, .int .i64 a4, .string a5, .int .u64 a6, .int .u64 a7]) (.agg #[.string b1, .string b2, .string b3, .int .i64 b4, .string b5, .int .u64 b6, .int .u64 b7])).run Tryz.prog w = _
  rw [run_eql_struct, h]; rfl
theorem guard_nd : Tryz.prog.eqGuardType Tryz.prog.depth 48 = false := by kernel_rfl
theorem guard_ck : Tryz.prog.eqGuardType Tryz.prog.depth 53 = false := by kernel_rfl
end Go.Proofs.YtmkohdepgfahnaaGreatDoor
