import Derived.Test.YtmkohdepgfahnaaGreatDoorJPay
import Derived.Test.YtmkohdepgfahnaaGreatDoorJEqU
import Derived.Test.YtmkohdepgfahnaaGreatDoorRcSameT
import Derived.Test.YtmkohdepgfahnaaGreatDoorJEqN
/- Layer 13 (journal): the document's SameService. -/
namespace Go.Proofs.YtmkohdepgfahnaaGreatDoor
open Go.RowKit
set_option linter.unusedVariables false
set_option linter.unusedSimpArgs false

set_option maxRecDepth 100000 in
set_option maxHeartbeats 2000000 in
theorem rsameService_calls (a b : Sp) (ta tb : Option Addr) (ca cb : Nat) (w : World) (hla : a.tags.length ≤ 140737488355328) (hlb : b.tags.length ≤ 140737488355328) (ha : CellsAt w ta (a.tags.map Value.string)) (hb : CellsAt w tb (b.tags.map Value.string)) :
    Calls Tryz.prog 38 #[.agg (a.v (.slice ta a.tags.length ca)), .agg (b.v (.slice tb b.tags.length cb))] w fun e w' => e = .returned (.bool (sameS a b)) ∧ Below w.heap.size w w' := by
  have HT : Hid (∀ w', Below w.heap.size w w' → Calls Tryz.prog 58 #[.slice ta a.tags.length ca, .slice tb b.tags.length cb] w' fun e w'' => e = .returned (.bool (decide (a.tags = b.tags))) ∧ ∃ n, w'' = w'.drewN n) := fun w' h => sameTx_calls ta tb ca cb a.tags b.tags w' hla hlb (ha.below h) (hb.below h)
  clear ha hb hla hlb
  obtain ⟨R, HR⟩ : ∃ x, Hid (x = sameS a b) := ⟨_, rfl⟩
  rw [← HR.out]
  obtain ⟨an, ai, am, ap, at_, ax, ay⟩ := a
  obtain ⟨bn, bi, bm, bp, bt_, bx, by_⟩ := b
  simp only [Sp.v] at *
  obtain ⟨la, Hla⟩ : ∃ x, Hid (x = at_.length) := ⟨_, rfl⟩
  obtain ⟨lb, Hlb⟩ : ∃ x, Hid (x = bt_.length) := ⟨_, rfl⟩
  rw [← Hla.out, ← Hlb.out] at HT ⊢
  clear Hla Hlb
  obtain ⟨w2, Hw2⟩ : ∃ w2, Hid (w2 = (w.alloc (.cells #[.string an, .string ai, .string am, .int .i64 ap, .slice ta la ca, .int .u64 ax, .int .u64 ay] 51)).alloc (.cells #[.string bn, .string bi, .string bm, .int .i64 bp, .slice tb lb cb, .int .u64 bx, .int .u64 by_] 51)) := ⟨_, rfl⟩
  have hz : (w.alloc (.cells #[.string an, .string ai, .string am, .int .i64 ap, .slice ta la ca, .int .u64 ax, .int .u64 ay] 51)).heap.size = w.heap.size + 1 := size_new _ _
  have HX : Hid (Blk w2 w.heap.size #[.string an, .string ai, .string am, .int .i64 ap, .slice ta la ca, .int .u64 ax, .int .u64 ay] 51) := by rw [Hw2.out]; exact (Blk.new _ _ _).alloc _
  have HY : Hid (Blk w2 (w.heap.size + 1) #[.string bn, .string bi, .string bm, .int .i64 bp, .slice tb lb cb, .int .u64 bx, .int .u64 by_] 51) := by rw [Hw2.out, ← hz]; exact Blk.new _ _ _
  have HB : Hid (Below w.heap.size w w2) := by rw [Hw2.out]; exact (below_new w _).alloc (by rw [hz]; omega) _
  clear hz
  go_enter Tryz.func38, Tryz.ntmps38
  go_upto_region 1 with fail
  rw [← Hw2.out]
  clear Hw2
  have x0 := HX.out.cell 0 rfl
  have y0 := HY.out.cell 0 rfl
  have x1 := HX.out.cell 1 rfl
  have y1 := HY.out.cell 1 rfl
  have x2 := HX.out.cell 2 rfl
  have y2 := HY.out.cell 2 rfl
  have x3 := HX.out.cell 3 rfl
  have y3 := HY.out.cell 3 rfl
  have x4 := HX.out.cell 4 rfl
  have y4 := HY.out.cell 4 rfl
  have x5 := HX.out.cell 5 rfl
  have y5 := HY.out.cell 5 rfl
  have x6 := HX.out.cell 6 rfl
  have y6 := HY.out.cell 6 rfl
  cases q0 : (an.toList == bn.toList) with
  | false =>
    have d0 : decide (an = bn) = false := by rw [← beq_toList]; exact q0
    have HF : Hid (R = false) := by
      show _ = _
      rw [HR.out]
      simp only [sameS, d0, Bool.true_and, Bool.and_true, Bool.false_and, Bool.and_false]
    clear HR d0
    go_wp2
    go_ret
    exact ⟨by rw [HF.out]; rfl, HB.out⟩
  | true =>
    have d0 : decide (an = bn) = true := by rw [← beq_toList]; exact q0
    cases q1 : (ai.toList == bi.toList) with
    | false =>
      have d1 : decide (ai = bi) = false := by rw [← beq_toList]; exact q1
      have HF : Hid (R = false) := by
        show _ = _
        rw [HR.out]
        simp only [sameS, d0, d1, Bool.true_and, Bool.and_true, Bool.false_and, Bool.and_false]
      clear HR d0 d1
      go_wp2
      go_ret
      exact ⟨by rw [HF.out]; rfl, HB.out⟩
    | true =>
      have d1 : decide (ai = bi) = true := by rw [← beq_toList]; exact q1
      cases q2 : (am.toList == bm.toList) with
      | false =>
        have d2 : decide (am = bm) = false := by rw [← beq_toList]; exact q2
        have HF : Hid (R = false) := by
          show _ = _
          rw [HR.out]
          simp only [sameS, d0, d1, d2, Bool.true_and, Bool.and_true, Bool.false_and, Bool.and_false]
        clear HR d0 d1 d2
        go_wp2
        go_ret
        exact ⟨by rw [HF.out]; rfl, HB.out⟩
      | true =>
        have d2 : decide (am = bm) = true := by rw [← beq_toList]; exact q2
        cases q3 : (ap == bp) with
        | false =>
          have d3 := q3
          have HF : Hid (R = false) := by
            show _ = _
            rw [HR.out]
            simp only [sameS, d0, d1, d2, d3, Bool.true_and, Bool.and_true, Bool.false_and, Bool.and_false]
          clear HR d0 d1 d2 d3
          go_wp2
          go_ret
          exact ⟨by rw [HF.out]; rfl, HB.out⟩
        | true =>
          have d3 := q3
          go_wp2_with fail
          clear x0 y0 x1 y1 x2 y2 x3 y3 x4 y4 x5 y5 x6 y6
          refine (HT.out w2 HB.out).mono ?_
          rintro e w3 ⟨rfl, hd⟩
          have hb3 : Below w2.heap.size w2 w3 := by obtain ⟨n, rfl⟩ := hd; exact below_draws _ _
          clear hd
          have x5 := (HX.out.below hb3).cell 5 rfl
          have y5 := (HY.out.below hb3).cell 5 rfl
          have x6 := (HX.out.below hb3).cell 6 rfl
          have y6 := (HY.out.below hb3).cell 6 rfl
          have HB3 : Hid (Below w.heap.size w w3) := HB.out.trans (hb3.mono HB.out.size)
          clear hb3 HX HY HB HT
          cases d4 : decide (at_ = bt_) with
          | false =>
            have HF : Hid (R = false) := by
              show _ = _
              rw [HR.out]
              simp only [sameS, d0, d1, d2, d3, d4, Bool.true_and, Bool.and_true, Bool.false_and, Bool.and_false]
            clear HR
            go_wp2
            go_ret
            exact ⟨by rw [HF.out]; rfl, HB3.out⟩
          | true =>
            cases q5 : (ax == bx) with
            | false =>
              have d5 := q5
              have HF : Hid (R = false) := by
                show _ = _
                rw [HR.out]
                simp only [sameS, d0, d1, d2, d3, d4, d5, Bool.true_and, Bool.and_true, Bool.false_and, Bool.and_false]
              clear HR d0 d1 d2 d3 d5
              go_wp2
              go_ret
              exact ⟨by rw [HF.out]; rfl, HB3.out⟩
            | true =>
              have d5 := q5
              cases q6 : (ay == by_) with
              | false =>
                have d6 := q6
                have HF : Hid (R = false) := by
                  show _ = _
                  rw [HR.out]
                  simp only [sameS, d0, d1, d2, d3, d4, d5, d6, Bool.true_and, Bool.and_true, Bool.false_and, Bool.and_false]
                clear HR d0 d1 d2 d3 d5 d6
                go_wp2
                go_ret
                exact ⟨by rw [HF.out]; rfl, HB3.out⟩
              | true =>
                have d6 := q6
                have HF : Hid (R = true) := by
                  show _ = _
                  rw [HR.out]
                  simp only [sameS, d0, d1, d2, d3, d4, d5, d6, Bool.and_self]
                clear HR
                go_wp2
                go_ret
                exact ⟨by rw [HF.out]; rfl, HB3.out⟩
end Go.Proofs.YtmkohdepgfahnaaGreatDoor

/- Layer 13 (journal): the document's SameOp. -/
namespace Go.Proofs.YtmkohdepgfahnaaGreatDoor
open Go.RowKit
set_option linter.unusedVariables false
set_option linter.unusedSimpArgs false

set_option maxRecDepth 100000 in
set_option maxHeartbeats 4000000 in
theorem rsameOp_calls (a b : Opp) (ta tb : Option Addr) (ca cb : Nat) (w : World) (hla : a.svc.tags.length ≤ 140737488355328) (hlb : b.svc.tags.length ≤ 140737488355328) (ha : CellsAt w ta (a.svc.tags.map Value.string)) (hb : CellsAt w tb (b.svc.tags.map Value.string)) :
    Calls Tryz.prog 26 #[.agg (a.v (.slice ta a.svc.tags.length ca)), .agg (b.v (.slice tb b.svc.tags.length cb))] w fun e w' => e = .returned (.bool (sameO a b)) ∧ Below w.heap.size w w' := by
  obtain ⟨S, HSd⟩ : ∃ x, Hid (x = sameS a.svc b.svc) := ⟨_, rfl⟩
  obtain ⟨N, HNd⟩ : ∃ x, Hid (x = sameN a.node b.node) := ⟨_, rfl⟩
  obtain ⟨C, HCd⟩ : ∃ x, Hid (x = sameC a.chk b.chk) := ⟨_, rfl⟩
  have HT : Hid (∀ w', Below w.heap.size w w' → Calls Tryz.prog 38 #[.agg (a.svc.v (.slice ta a.svc.tags.length ca)), .agg (b.svc.v (.slice tb b.svc.tags.length cb))] w' fun e w'' => e = .returned (.bool S) ∧ Below w'.heap.size w' w'') := fun w' h => by rw [HSd.out]; exact rsameService_calls a.svc b.svc ta tb ca cb w' hla hlb (ha.below h) (hb.below h)
  have hN : ∀ W : World, (binOp .eql 48 (.agg a.node.v) (.agg b.node.v)).run Tryz.prog W = .ok (.bool N) W := fun W => by rw [HNd.out]; exact run_eql_node a.node b.node W
  have hC : ∀ W : World, (binOp .eql 53 (.agg a.chk.v) (.agg b.chk.v)).run Tryz.prog W = .ok (.bool C) W := fun W => by rw [HCd.out]; exact run_eql_chk a.chk b.chk W
  have hg1 := guard_nd
  have hg2 := guard_ck
  clear ha hb hla hlb
  obtain ⟨R, HR⟩ : ∃ x, Hid (x = sameO a b) := ⟨_, rfl⟩
  have HRE : Hid (sameO a b = ((a.kind == b.kind) && N && S && C && (a.cas == b.cas) && (a.want == b.want))) := by show _ = _; rw [HNd.out, HSd.out, HCd.out]; rfl
  rw [HRE.out] at HR
  rw [HRE.out, ← HR.out]
  clear HRE HNd HSd HCd
  obtain ⟨ak, ⟨an1, an2, an3, an4⟩, ⟨as1, as2, as3, as4, at_, as6, as7⟩, ⟨ac1, ac2, ac3, ac4, ac5, ac6, ac7⟩, ab, aw⟩ := a
  obtain ⟨bk, ⟨bn1, bn2, bn3, bn4⟩, ⟨bs1, bs2, bs3, bs4, bt_, bs6, bs7⟩, ⟨bc1, bc2, bc3, bc4, bc5, bc6, bc7⟩, bb, bw⟩ := b
  simp only [Opp.v, Sp.v, Nd.v, Ck.v] at *
  obtain ⟨la, Hla⟩ : ∃ x, Hid (x = at_.length) := ⟨_, rfl⟩
  obtain ⟨lb, Hlb⟩ : ∃ x, Hid (x = bt_.length) := ⟨_, rfl⟩
  rw [← Hla.out, ← Hlb.out] at HT ⊢
  clear Hla Hlb
  obtain ⟨w2, Hw2⟩ : ∃ w2, Hid (w2 = (w.alloc (.cells #[.int .i64 ak, .string an1, .string an2, .int .u64 an3, .int .u64 an4, .string as1, .string as2, .string as3, .int .i64 as4, .slice ta la ca, .int .u64 as6, .int .u64 as7, .string ac1, .string ac2, .string ac3, .int .i64 ac4, .string ac5, .int .u64 ac6, .int .u64 ac7, .bool ab, .int .u64 aw] 55)).alloc (.cells #[.int .i64 bk, .string bn1, .string bn2, .int .u64 bn3, .int .u64 bn4, .string bs1, .string bs2, .string bs3, .int .i64 bs4, .slice tb lb cb, .int .u64 bs6, .int .u64 bs7, .string bc1, .string bc2, .string bc3, .int .i64 bc4, .string bc5, .int .u64 bc6, .int .u64 bc7, .bool bb, .int .u64 bw] 55)) := ⟨_, rfl⟩
  have hz : (w.alloc (.cells #[.int .i64 ak, .string an1, .string an2, .int .u64 an3, .int .u64 an4, .string as1, .string as2, .string as3, .int .i64 as4, .slice ta la ca, .int .u64 as6, .int .u64 as7, .string ac1, .string ac2, .string ac3, .int .i64 ac4, .string ac5, .int .u64 ac6, .int .u64 ac7, .bool ab, .int .u64 aw] 55)).heap.size = w.heap.size + 1 := size_new _ _
  have HX : Hid (Blk w2 w.heap.size #[.int .i64 ak, .string an1, .string an2, .int .u64 an3, .int .u64 an4, .string as1, .string as2, .string as3, .int .i64 as4, .slice ta la ca, .int .u64 as6, .int .u64 as7, .string ac1, .string ac2, .string ac3, .int .i64 ac4, .string ac5, .int .u64 ac6, .int .u64 ac7, .bool ab, .int .u64 aw] 55) := by rw [Hw2.out]; exact (Blk.new _ _ _).alloc _
  have HY : Hid (Blk w2 (w.heap.size + 1) #[.int .i64 bk, .string bn1, .string bn2, .int .u64 bn3, .int .u64 bn4, .string bs1, .string bs2, .string bs3, .int .i64 bs4, .slice tb lb cb, .int .u64 bs6, .int .u64 bs7, .string bc1, .string bc2, .string bc3, .int .i64 bc4, .string bc5, .int .u64 bc6, .int .u64 bc7, .bool bb, .int .u64 bw] 55) := by rw [Hw2.out, ← hz]; exact Blk.new _ _ _
  have HB : Hid (Below w.heap.size w w2) := by rw [Hw2.out]; exact (below_new w _).alloc (by rw [hz]; omega) _
  clear hz
  go_enter Tryz.func26, Tryz.ntmps26
  go_upto_region 1 with fail
  rw [← Hw2.out]
  clear Hw2
  have x0 := HX.out.cell 0 rfl
  have y0 := HY.out.cell 0 rfl
  have x1 := HX.out.cell 1 rfl
  have y1 := HY.out.cell 1 rfl
  have x2 := HX.out.cell 2 rfl
  have y2 := HY.out.cell 2 rfl
  have x3 := HX.out.cell 3 rfl
  have y3 := HY.out.cell 3 rfl
  have x4 := HX.out.cell 4 rfl
  have y4 := HY.out.cell 4 rfl
  have x5 := HX.out.cell 5 rfl
  have y5 := HY.out.cell 5 rfl
  have x6 := HX.out.cell 6 rfl
  have y6 := HY.out.cell 6 rfl
  have x7 := HX.out.cell 7 rfl
  have y7 := HY.out.cell 7 rfl
  have x8 := HX.out.cell 8 rfl
  have y8 := HY.out.cell 8 rfl
  have x9 := HX.out.cell 9 rfl
  have y9 := HY.out.cell 9 rfl
  have x10 := HX.out.cell 10 rfl
  have y10 := HY.out.cell 10 rfl
  have x11 := HX.out.cell 11 rfl
  have y11 := HY.out.cell 11 rfl
  cases q0 : (ak == bk) with
  | false =>
    have HF : Hid (R = false) := by
      show _ = _
      rw [HR.out]
      simp only [q0, Bool.true_and, Bool.and_true, Bool.false_and, Bool.and_false, Bool.and_self]
    clear HR
    go_wp2
    go_ret
    exact ⟨by rw [HF.out]; rfl, HB.out⟩
  | true =>
    cases q1 : N with
    | false =>
      have HF : Hid (R = false) := by
        show _ = _
        rw [HR.out]
        simp only [q0, q1, Bool.true_and, Bool.and_true, Bool.false_and, Bool.and_false, Bool.and_self]
      subst q1
      clear HR
      go_wp2
      go_ret
      exact ⟨by rw [HF.out]; rfl, HB.out⟩
    | true =>
      go_wp2_with fail
      clear x0 y0 x1 y1 x2 y2 x3 y3 x4 y4 x5 y5 x6 y6 x7 y7 x8 y8 x9 y9 x10 y10 x11 y11
      refine (HT.out w2 HB.out).mono ?_
      rintro e w3 ⟨rfl, hb3⟩
      have x12 := (HX.out.below hb3).cell 12 rfl
      have y12 := (HY.out.below hb3).cell 12 rfl
      have x13 := (HX.out.below hb3).cell 13 rfl
      have y13 := (HY.out.below hb3).cell 13 rfl
      have x14 := (HX.out.below hb3).cell 14 rfl
      have y14 := (HY.out.below hb3).cell 14 rfl
      have x15 := (HX.out.below hb3).cell 15 rfl
      have y15 := (HY.out.below hb3).cell 15 rfl
      have x16 := (HX.out.below hb3).cell 16 rfl
      have y16 := (HY.out.below hb3).cell 16 rfl
      have x17 := (HX.out.below hb3).cell 17 rfl
      have y17 := (HY.out.below hb3).cell 17 rfl
      have x18 := (HX.out.below hb3).cell 18 rfl
      have y18 := (HY.out.below hb3).cell 18 rfl
      have x19 := (HX.out.below hb3).cell 19 rfl
      have y19 := (HY.out.below hb3).cell 19 rfl
      have x20 := (HX.out.below hb3).cell 20 rfl
      have y20 := (HY.out.below hb3).cell 20 rfl
      have HB3 : Hid (Below w.heap.size w w3) := HB.out.trans (hb3.mono HB.out.size)
      clear hb3 HX HY HB HT
      cases q2 : S with
      | false =>
        have HF : Hid (R = false) := by
          show _ = _
          rw [HR.out]
          simp only [q0, q1, q2, Bool.true_and, Bool.and_true, Bool.false_and, Bool.and_false, Bool.and_self]
        subst q2
        clear HR
        go_wp2
        go_ret
        exact ⟨by rw [HF.out]; rfl, HB3.out⟩
      | true =>
        cases q3 : C with
        | false =>
          have HF : Hid (R = false) := by
            show _ = _
            rw [HR.out]
            simp only [q0, q1, q2, q3, Bool.true_and, Bool.and_true, Bool.false_and, Bool.and_false, Bool.and_self]
          subst q3
          clear HR
          go_wp2
          go_ret
          exact ⟨by rw [HF.out]; rfl, HB3.out⟩
        | true =>
          cases q4 : (ab == bb) with
          | false =>
            have HF : Hid (R = false) := by
              show _ = _
              rw [HR.out]
              simp only [q0, q1, q2, q3, q4, Bool.true_and, Bool.and_true, Bool.false_and, Bool.and_false, Bool.and_self]
            clear HR
            go_wp2
            go_ret
            exact ⟨by rw [HF.out]; rfl, HB3.out⟩
          | true =>
            cases q5 : (aw == bw) with
            | false =>
              have HF : Hid (R = false) := by
                show _ = _
                rw [HR.out]
                simp only [q0, q1, q2, q3, q4, q5, Bool.true_and, Bool.and_true, Bool.false_and, Bool.and_false, Bool.and_self]
              clear HR
              go_wp2
              go_ret
              exact ⟨by rw [HF.out]; rfl, HB3.out⟩
            | true =>
              have HF : Hid (R = true) := by
                show _ = _
                rw [HR.out]
                simp only [q0, q1, q2, q3, q4, q5, Bool.true_and, Bool.and_true, Bool.false_and, Bool.and_false, Bool.and_self]
              clear HR
              go_wp2
              go_ret
              exact ⟨by rw [HF.out]; rfl, HB3.out⟩
end Go.Proofs.YtmkohdepgfahnaaGreatDoor
