import Derived.Test.YthgcnmilaifkoaaGreatDoorJRopNode
import Derived.Test.YthgcnmilaifkoaaGreatDoorJRopDnode
import Derived.Test.YthgcnmilaifkoaaGreatDoorJRopSvc
import Derived.Test.YthgcnmilaifkoaaGreatDoorJRopDsvc
import Derived.Test.YthgcnmilaifkoaaGreatDoorJRopChk
import Derived.Test.YthgcnmilaifkoaaGreatDoorJRopDchk
import Derived.Test.YthgcnmilaifkoaaGreatDoorJEqN
import Derived.BigQuiet
import Derived.Deep.QuietTactic
import Derived.Test.YthgcnmilaifkoaaGreatDoorJPay
import Derived.Test.YthgcnmilaifkoaaGreatDoorRcCopyS
/- Layer 13 (journal): the document's op, whole. -/
namespace Go.Proofs.YthgcnmilaifkoaaGreatDoor
open Go.RowKit
set_option linter.unusedVariables false

theorem rop2_calls (o : Opp) (ta : Option Addr) (tc : Nat) (w : World) (hs : Snd o) (hr : o.rng) (hta : CellsAt w ta (o.svc.tags.map Value.string)) :
  Calls Tryz.prog 50 #[.agg (o.v (.slice ta o.svc.tags.length tc))] w fun e w' => ∃ v', e = .returned v' ∧ Own w' w.heap.size v' (opB o) ∧ Below w.heap.size w w' := by
 obtain ⟨r0, r1⟩ := hr
 cases hs with
 | node n a b x hx h1 h2 =>
  cases b
  ·exact rop_node_false n a x ta tc w r0 r1 h1 h2
  ·exact rop_node_true n a x ta tc w r0 r1 h1 h2
 | svc n i m p t b x hx h1 h2 h3 h4 h5 h6 h7 =>
  cases b
  ·exact rop_svc_false n i m p t x ta tc w r0 r1 h1 h2 h3 h4 h5 h6 h7 hta
  ·exact rop_svc_true n i m p t x ta tc w r0 r1 h1 h2 h3 h4 h5 h6 h7 hta
 | chk n i m p t b x hx h1 h2 h3 h4 h5 h6 =>
  cases b
  ·exact rop_chk_false n i m p t x ta tc w r0 r1 h1 h2 h3 h4 h5 h6
  ·exact rop_chk_true n i m p t x ta tc w r0 r1 h1 h2 h3 h4 h5 h6
 | dnode n b x hx h1 =>
  cases b
  ·exact rop_dnode_false n x ta tc w r0 r1 h1
  ·exact rop_dnode_true n x ta tc w r0 r1 h1
 | dsvc n i b x hx h1 h2 =>
  cases b
  ·exact rop_dsvc_false n i x ta tc w r0 r1 h1 h2
  ·exact rop_dsvc_true n i x ta tc w r0 r1 h1 h2
 | dchk n i b x hx h1 h2 =>
  cases b
  ·exact rop_dchk_false n i x ta tc w r0 r1 h1 h2
  ·exact rop_dchk_true n i x ta tc w r0 r1 h1 h2
end Go.Proofs.YthgcnmilaifkoaaGreatDoor

/- Layer 13 (journal): the document's SameTexts. -/
namespace Go.Proofs.YthgcnmilaifkoaaGreatDoor
open Go.RowKit
set_option linter.unusedVariables false
set_option linter.unusedSimpArgs false

set_option maxRecDepth 100000 in
set_option maxHeartbeats 1000000 in
theorem sameTx_calls (ao bo : Option Addr) (ca cb : Nat) (l m : List ByteArray) (w : World) (hl : l.length ≤ 140737488355328) (hm : m.length ≤ 140737488355328) (ha : CellsAt w ao (l.map Value.string)) (hb : CellsAt w bo (m.map Value.string)) :
  Calls Tryz.prog 44 #[.slice ao l.length ca, .slice bo m.length cb] w fun e w' => e = .returned (.bool (decide (l = m))) ∧ ∃ n, w' = w.drewN n := by
 obtain ⟨R, HR⟩ : ∃ R, Hid (R = decide (l = m)) := ⟨_, rfl⟩
 rw [← HR.out]
 by_cases hlen : l.length = m.length
 ·have hq : ((l.length : Int) != (m.length : Int)) = false := by simp; omega
  obtain ⟨n, Hn⟩ : ∃ n, Hid (n = m.length) := ⟨_, rfl⟩
  rw [← Hn.out] at hlen hm hq ⊢
  obtain ⟨n', Hn'⟩ : ∃ n', Hid (n' = l.length) := ⟨_, rfl⟩
  rw [← Hn'.out] at hlen hl hq ⊢
  subst hlen
  go_enter Tryz.func44, Tryz.ntmps44
  go_wp2
  go_loopw [5] (fun i wr => ∃ k : Nat, k ≤ n' ∧ i = .int .i64 k ∧ Hid (∀ j (h1 : j < l.length) (h2 : j < m.length), j < k → l[j] = m[j]) ∧ ∃ q, wr = w.drewN q) (fun i _ => n' - (intOf i).toNat)
  case atStart => exact ⟨0, Nat.zero_le _, rfl, fun _ _ _ h => absurd h (Nat.not_lt_zero _), 0, rfl⟩
  case round =>
   obtain ⟨k, hk, rfl, HS, hdq⟩ := hrel
   have HQ : Hid (∃ q, wr = w.drewN q) := hdq
   have hbw : Below w.heap.size w wr := by obtain ⟨q, rfl⟩ := hdq; exact below_draws w q
   have HQ2 : Hid (∀ n, ∃ q, wr.drewN n = w.drewN q) := by intro n; obtain ⟨q, rfl⟩ := hdq; exact ⟨_, World.drewN_drewN _ _ _⟩
   clear hdq
   by_cases hlt : k < n'
   ·have k1 : k < l.length := by rw [← Hn'.out]; exact hlt
    have k2 : k < m.length := by rw [← Hn.out]; exact hlt
    obtain ⟨b, off, rfl, hc⟩ := (ha.below hbw).str k k1
    obtain ⟨b2, off2, rfl, hc2⟩ := (hb.below hbw).str k k2
    obtain ⟨c, Hc⟩ : ∃ c, Hid (c = l[k]'k1) := ⟨_, rfl⟩
    obtain ⟨d, Hd⟩ : ∃ d, Hid (d = m[k]'k2) := ⟨_, rfl⟩
    rw [← Hc.out] at hc
    rw [← Hd.out] at hc2
    by_cases he : c = d
    ·have HS2 : Hid (∀ j (h1 : j < l.length) (h2 : j < m.length), j < k + 1 → l[j] = m[j]) := by
      intro j h1 h2 h3
      by_cases hj : j = k
      ·subst hj
       have := Hc.out.symm.trans (he.trans Hd.out)
       exact this
      ·exact HS.out j h1 h2 (by omega)
     clear Hc Hd HS k1 k2
     subst he
     have hqq : (c.toList == c.toList) = true := beq_self_eq_true _
     go_wp2_with fail
     go_quiet (fail)
     go_wp2
     go_roundw
     case rel => exact ⟨k + 1, by omega, by go_num, HS2, HQ2.out _⟩
     case measure => simp [intOf]; omega
    ·have HF : Hid (R = false) := by
      show _ = _
      rw [HR.out]
      exact txt_no k1 k2 (by rw [← Hc.out, ← Hd.out]; exact he)
     have hqq : (c.toList == d.toList) = false := by rw [beq_toList]; simpa using he
     clear Hc Hd HS k1 k2
     go_wp2_with fail
     go_quiet (fail)
     go_wp2
     go_ret
     exact ⟨by rw [HF.out]; rfl, HQ2.out _⟩
   ·have HT : Hid (R = true) := by
     show _ = _
     rw [HR.out, decide_eq_true_eq]
     exact txt_yes (by rw [← Hn.out, ← Hn'.out]) fun j h1 h2 => HS.out j h1 h2 (by rw [← Hn'.out] at h1; omega)
    go_wp2
    go_ret
    exact ⟨by rw [HT.out]; rfl, HQ.out⟩
 ·have HF : Hid (R = false) := by
   show _ = _
   rw [HR.out, decide_eq_false_iff_not]
   intro e
   subst e
   exact hlen rfl
  have hq : ((l.length : Int) != (m.length : Int)) = true := by simp; omega
  obtain ⟨n, Hn⟩ : ∃ n, Hid (n = m.length) := ⟨_, rfl⟩
  obtain ⟨n', Hn'⟩ : ∃ n', Hid (n' = l.length) := ⟨_, rfl⟩
  rw [← Hn.out] at hq ⊢
  rw [← Hn'.out] at hq ⊢
  clear hlen
  go_enter Tryz.func44, Tryz.ntmps44
  go_wp2
  go_ret
  exact ⟨by rw [HF.out]; rfl, 0, rfl⟩
end Go.Proofs.YthgcnmilaifkoaaGreatDoor

/- Layer 13 (journal): the document's SameService. -/
namespace Go.Proofs.YthgcnmilaifkoaaGreatDoor
open Go.RowKit
set_option linter.unusedVariables false
set_option linter.unusedSimpArgs false

set_option maxRecDepth 100000 in
set_option maxHeartbeats 2000000 in
theorem rsameService_calls (a b : Sp) (ta tb : Option Addr) (ca cb : Nat) (w : World) (hla : a.tags.length ≤ 140737488355328) (hlb : b.tags.length ≤ 140737488355328) (ha : CellsAt w ta (a.tags.map Value.string)) (hb : CellsAt w tb (b.tags.map Value.string)) :
  Calls Tryz.prog 31 #[.agg (a.v (.slice ta a.tags.length ca)), .agg (b.v (.slice tb b.tags.length cb))] w fun e w' => e = .returned (.bool (sameS a b)) ∧ Below w.heap.size w w' := by
 have HT : Hid (∀ w', Below w.heap.size w w' → Calls Tryz.prog 44 #[.slice ta a.tags.length ca, .slice tb b.tags.length cb] w' fun e w'' => e = .returned (.bool (decide (a.tags = b.tags))) ∧ ∃ n, w'' = w'.drewN n) := fun w' h => sameTx_calls ta tb ca cb a.tags b.tags w' hla hlb (ha.below h) (hb.below h)
 clear ha hb hla hlb
 obtain ⟨R, HR⟩ : ∃ x, Hid (x = sameS a b) := ⟨_, rfl⟩
 rw [← HR.out]
 obtain ⟨an, ai, am, ap, at_, ax, ay⟩ := a
 obtain ⟨bn, bi, bm, bp, bt_, bx, by_⟩ := b
 simp only [Sp.v] at *
 obtain ⟨la, Hla⟩ : ∃ x, Hid (x = at_.length) := ⟨_, rfl⟩
 obtain ⟨lb, Hlb⟩ : ∃ x, Hid (x = bt_.length) := ⟨_, rfl⟩
 rw [← Hla.out, ← Hlb.out] at HT ⊢
 clear Hla Hlb
 obtain ⟨w2, Hw2⟩ : ∃ w2, Hid (w2 = (w.alloc (.cells #[.string an, .string ai, .string am, .int .i64 ap, .slice ta la ca, .int .u64 ax, .int .u64 ay] 41)).alloc (.cells #[.string bn, .string bi, .string bm, .int .i64 bp, .slice tb lb cb, .int .u64 bx, .int .u64 by_] 41)) := ⟨_, rfl⟩
 have hz : (w.alloc (.cells #[.string an, .string ai, .string am, .int .i64 ap, .slice ta la ca, .int .u64 ax, .int .u64 ay] 41)).heap.size = w.heap.size + 1 := size_new _ _
 have HX : Hid (Blk w2 w.heap.size #[.string an, .string ai, .string am, .int .i64 ap, .slice ta la ca, .int .u64 ax, .int .u64 ay] 41) := by rw [Hw2.out]; exact (Blk.new _ _ _).alloc _
 have HY : Hid (Blk w2 (w.heap.size + 1) #[.string bn, .string bi, .string bm, .int .i64 bp, .slice tb lb cb, .int .u64 bx, .int .u64 by_] 41) := by rw [Hw2.out, ← hz]; exact Blk.new _ _ _
 have HB : Hid (Below w.heap.size w w2) := by rw [Hw2.out]; exact (below_new w _).alloc (by rw [hz]; omega) _
 clear hz
 go_enter Tryz.func31, Tryz.ntmps31
 go_upto_region 1 with fail
 rw [← Hw2.out]
 clear Hw2
 have x0 := HX.out.cell 0 rfl
 have y0 := HY.out.cell 0 rfl
 have x1 := HX.out.cell 1 rfl
 have y1 := HY.out.cell 1 rfl
 have x2 := HX.out.cell 2 rfl
 have y2 := HY.out.cell 2 rfl
 have x3 := HX.out.cell 3 rfl
 have y3 := HY.out.cell 3 rfl
 have x4 := HX.out.cell 4 rfl
 have y4 := HY.out.cell 4 rfl
 have x5 := HX.out.cell 5 rfl
 have y5 := HY.out.cell 5 rfl
 have x6 := HX.out.cell 6 rfl
 have y6 := HY.out.cell 6 rfl
 cases q0 : (an.toList == bn.toList) with
 | false =>
  have d0 : decide (an = bn) = false := by rw [← beq_toList]; exact q0
  have HF : Hid (R = false) := by
   show _ = _
   rw [HR.out]
   simp only [sameS, d0, Bool.true_and, Bool.and_true, Bool.false_and, Bool.and_false]
  clear HR d0
  go_wp2
  go_ret
  exact ⟨by rw [HF.out]; rfl, HB.out⟩
 | true =>
  have d0 : decide (an = bn) = true := by rw [← beq_toList]; exact q0
  cases q1 : (ai.toList == bi.toList) with
  | false =>
   have d1 : decide (ai = bi) = false := by rw [← beq_toList]; exact q1
   have HF : Hid (R = false) := by
    show _ = _
    rw [HR.out]
    simp only [sameS, d0, d1, Bool.true_and, Bool.and_true, Bool.false_and, Bool.and_false]
   clear HR d0 d1
   go_wp2
   go_ret
   exact ⟨by rw [HF.out]; rfl, HB.out⟩
  | true =>
   have d1 : decide (ai = bi) = true := by rw [← beq_toList]; exact q1
   cases q2 : (am.toList == bm.toList) with
   | false =>
    have d2 : decide (am = bm) = false := by rw [← beq_toList]; exact q2
    have HF : Hid (R = false) := by
     show _ = _
     rw [HR.out]
     simp only [sameS, d0, d1, d2, Bool.true_and, Bool.and_true, Bool.false_and, Bool.and_false]
    clear HR d0 d1 d2
    go_wp2
    go_ret
    exact ⟨by rw [HF.out]; rfl, HB.out⟩
   | true =>
    have d2 : decide (am = bm) = true := by rw [← beq_toList]; exact q2
    cases q3 : (ap == bp) with
    | false =>
     have d3 := q3
     have HF : Hid (R = false) := by
      show _ = _
      rw [HR.out]
      simp only [sameS, d0, d1, d2, d3, Bool.true_and, Bool.and_true, Bool.false_and, Bool.and_false]
     clear HR d0 d1 d2 d3
     go_wp2
     go_ret
     exact ⟨by rw [HF.out]; rfl, HB.out⟩
    | true =>
     have d3 := q3
     go_wp2_with fail
     clear x0 y0 x1 y1 x2 y2 x3 y3 x4 y4 x5 y5 x6 y6
     refine (HT.out w2 HB.out).mono ?_
     rintro e w3 ⟨rfl, hd⟩
     have hb3 : Below w2.heap.size w2 w3 := by obtain ⟨n, rfl⟩ := hd; exact below_draws _ _
     clear hd
     have x5 := (HX.out.below hb3).cell 5 rfl
     have y5 := (HY.out.below hb3).cell 5 rfl
     have x6 := (HX.out.below hb3).cell 6 rfl
     have y6 := (HY.out.below hb3).cell 6 rfl
     have HB3 : Hid (Below w.heap.size w w3) := HB.out.trans (hb3.mono HB.out.size)
     clear hb3 HX HY HB HT
     cases d4 : decide (at_ = bt_) with
     | false =>
      have HF : Hid (R = false) := by
       show _ = _
       rw [HR.out]
       simp only [sameS, d0, d1, d2, d3, d4, Bool.true_and, Bool.and_true, Bool.false_and, Bool.and_false]
      clear HR
      go_wp2
      go_ret
      exact ⟨by rw [HF.out]; rfl, HB3.out⟩
     | true =>
      cases q5 : (ax == bx) with
      | false =>
       have d5 := q5
       have HF : Hid (R = false) := by
        show _ = _
        rw [HR.out]
        simp only [sameS, d0, d1, d2, d3, d4, d5, Bool.true_and, Bool.and_true, Bool.false_and, Bool.and_false]
       clear HR d0 d1 d2 d3 d5
       go_wp2
       go_ret
       exact ⟨by rw [HF.out]; rfl, HB3.out⟩
      | true =>
       have d5 := q5
       cases q6 : (ay == by_) with
       | false =>
        have d6 := q6
        have HF : Hid (R = false) := by
         show _ = _
         rw [HR.out]
         simp only [sameS, d0, d1, d2, d3, d4, d5, d6, Bool.true_and, Bool.and_true, Bool.false_and, Bool.and_false]
        clear HR d0 d1 d2 d3 d5 d6
        go_wp2
        go_ret
        exact ⟨by rw [HF.out]; rfl, HB3.out⟩
       | true =>
        have d6 := q6
        have HF : Hid (R = true) := by
         show _ = _
         rw [HR.out]
         simp only [sameS, d0, d1, d2, d3, d4, d5, d6, Bool.and_self]
        clear HR
        go_wp2
        go_ret
        exact ⟨by rw [HF.out]; rfl, HB3.out⟩
end Go.Proofs.YthgcnmilaifkoaaGreatDoor

/- Layer 13 (journal): the document's SameOp. -/
namespace Go.Proofs.YthgcnmilaifkoaaGreatDoor
open Go.RowKit
set_option linter.unusedVariables false
set_option linter.unusedSimpArgs false

set_option maxRecDepth 100000 in
set_option maxHeartbeats 4000000 in
theorem rsameOp_calls (a b : Opp) (ta tb : Option Addr) (ca cb : Nat) (w : World) (hla : a.svc.tags.length ≤ 140737488355328) (hlb : b.svc.tags.length ≤ 140737488355328) (ha : CellsAt w ta (a.svc.tags.map Value.string)) (hb : CellsAt w tb (b.svc.tags.map Value.string)) :
  Calls Tryz.prog 16 #[.agg (a.v (.slice ta a.svc.tags.length ca)), .agg (b.v (.slice tb b.svc.tags.length cb))] w fun e w' => e = .returned (.bool (sameO a b)) ∧ Below w.heap.size w w' := by
 obtain ⟨S, HSd⟩ : ∃ x, Hid (x = sameS a.svc b.svc) := ⟨_, rfl⟩
 obtain ⟨N, HNd⟩ : ∃ x, Hid (x = sameN a.node b.node) := ⟨_, rfl⟩
 obtain ⟨C, HCd⟩ : ∃ x, Hid (x = sameC a.chk b.chk) := ⟨_, rfl⟩
 have HT : Hid (∀ w', Below w.heap.size w w' → Calls Tryz.prog 31 #[.agg (a.svc.v (.slice ta a.svc.tags.length ca)), .agg (b.svc.v (.slice tb b.svc.tags.length cb))] w' fun e w'' => e = .returned (.bool S) ∧ Below w'.heap.size w' w'') := fun w' h => by rw [HSd.out]; exact rsameService_calls a.svc b.svc ta tb ca cb w' hla hlb (ha.below h) (hb.below h)
 have hN : ∀ W : World, (binOp .eql 43 (.agg a.node.v) (.agg b.node.v)).run Tryz.prog W = .ok (.bool N) W := fun W => by rw [HNd.out]; exact run_eql_node a.node b.node W
 have hC : ∀ W : World, (binOp .eql 45 (.agg a.chk.v) (.agg b.chk.v)).run Tryz.prog W = .ok (.bool C) W := fun W => by rw [HCd.out]; exact run_eql_chk a.chk b.chk W
 have hg1 := guard_nd
 have hg2 := guard_ck
 clear ha hb hla hlb
 obtain ⟨R, HR⟩ : ∃ x, Hid (x = sameO a b) := ⟨_, rfl⟩
 have HRE : Hid (sameO a b = ((a.kind == b.kind) && N && S && C && (a.cas == b.cas) && (a.want == b.want))) := by show _ = _; rw [HNd.out, HSd.out, HCd.out]; rfl
 rw [HRE.out] at HR
 rw [HRE.out, ← HR.out]
 clear HRE HNd HSd HCd
 obtain ⟨ak, ⟨an1, an2, an3, an4⟩, ⟨as1, as2, as3, as4, at_, as6, as7⟩, ⟨ac1, ac2, ac3, ac4, ac5, ac6, ac7⟩, ab, aw⟩ := a
 obtain ⟨bk, ⟨bn1, bn2, bn3, bn4⟩, ⟨bs1, bs2, bs3, bs4, bt_, bs6, bs7⟩, ⟨bc1, bc2, bc3, bc4, bc5, bc6, bc7⟩, bb, bw⟩ := b
 simp only [Opp.v, Sp.v, Nd.v, Ck.v] at *
 obtain ⟨la, Hla⟩ : ∃ x, Hid (x = at_.length) := ⟨_, rfl⟩
 obtain ⟨lb, Hlb⟩ : ∃ x, Hid (x = bt_.length) := ⟨_, rfl⟩
 rw [← Hla.out, ← Hlb.out] at HT ⊢
 clear Hla Hlb
 obtain ⟨w2, Hw2⟩ : ∃ w2, Hid (w2 = (w.alloc (.cells #[.int .i64 ak, .string an1, .string an2, .int .u64 an3, .int .u64 an4, .string as1, .string as2, .string as3, .int .i64 as4, .slice ta la ca, .int .u64 as6, .int .u64 as7, .string ac1, .string ac2, .string ac3, .int .i64 ac4, .string ac5, .int .u64 ac6, .int .u64 ac7, .bool ab, .int .u64 aw] 47)).alloc (.cells #[.int .i64 bk, .string bn1, .string bn2, .int .u64 bn3, .int .u64 bn4, .string bs1, .string bs2, .string bs3, .int .i64 bs4, .slice tb lb cb, .int .u64 bs6, .int .u64 bs7, .string bc1, .string bc2, .string bc3, .int .i64 bc4, .string bc5, .int .u64 bc6, .int .u64 bc7, .bool bb, .int .u64 bw] 47)) := ⟨_, rfl⟩
 have hz : (w.alloc (.cells #[.int .i64 ak, .string an1, .string an2, .int .u64 an3, .int .u64 an4, .string as1, .string as2, .string as3, .int .i64 as4, .slice ta la ca, .int .u64 as6, .int .u64 as7, .string ac1, .string ac2, .string ac3, .int .i64 ac4, .string ac5, .int .u64 ac6, .int .u64 ac7, .bool ab, .int .u64 aw] 47)).heap.size = w.heap.size + 1 := size_new _ _
 have HX : Hid (Blk w2 w.heap.size #[.int .i64 ak, .string an1, .string an2, .int .u64 an3, .int .u64 an4, .string as1, .string as2, .string as3, .int .i64 as4, .slice ta la ca, .int .u64 as6, .int .u64 as7, .string ac1, .string ac2, .string ac3, .int .i64 ac4, .string ac5, .int .u64 ac6, .int .u64 ac7, .bool ab, .int .u64 aw] 47) := by rw [Hw2.out]; exact (Blk.new _ _ _).alloc _
 have HY : Hid (Blk w2 (w.heap.size + 1) #[.int .i64 bk, .string bn1, .string bn2, .int .u64 bn3, .int .u64 bn4, .string bs1, .string bs2, .string bs3, .int .i64 bs4, .slice tb lb cb, .int .u64 bs6, .int .u64 bs7, .string bc1, .string bc2, .string bc3, .int .i64 bc4, .string bc5, .int .u64 bc6, .int .u64 bc7, .bool bb, .int .u64 bw] 47) := by rw [Hw2.out, ← hz]; exact Blk.new _ _ _
 have HB : Hid (Below w.heap.size w w2) := by rw [Hw2.out]; exact (below_new w _).alloc (by rw [hz]; omega) _
 clear hz
 go_enter Tryz.func16, Tryz.ntmps16
 go_upto_region 1 with fail
 rw [← Hw2.out]
 clear Hw2
 have x0 := HX.out.cell 0 rfl
 have y0 := HY.out.cell 0 rfl
 have x1 := HX.out.cell 1 rfl
 have y1 := HY.out.cell 1 rfl
 have x2 := HX.out.cell 2 rfl
 have y2 := HY.out.cell 2 rfl
 have x3 := HX.out.cell 3 rfl
 have y3 := HY.out.cell 3 rfl
 have x4 := HX.out.cell 4 rfl
 have y4 := HY.out.cell 4 rfl
 have x5 := HX.out.cell 5 rfl
 have y5 := HY.out.cell 5 rfl
 have x6 := HX.out.cell 6 rfl
 have y6 := HY.out.cell 6 rfl
 have x7 := HX.out.cell 7 rfl
 have y7 := HY.out.cell 7 rfl
 have x8 := HX.out.cell 8 rfl
 have y8 := HY.out.cell 8 rfl
 have x9 := HX.out.cell 9 rfl
 have y9 := HY.out.cell 9 rfl
 have x10 := HX.out.cell 10 rfl
 have y10 := HY.out.cell 10 rfl
 have x11 := HX.out.cell 11 rfl
 have y11 := HY.out.cell 11 rfl
 cases q0 : (ak == bk) with
 | false =>
  have HF : Hid (R = false) := by
   show _ = _
   rw [HR.out]
   simp only [q0, Bool.true_and, Bool.and_true, Bool.false_and, Bool.and_false, Bool.and_self]
  clear HR
  go_wp2
  go_ret
  exact ⟨by rw [HF.out]; rfl, HB.out⟩
 | true =>
  cases q1 : N with
  | false =>
   have HF : Hid (R = false) := by
    show _ = _
    rw [HR.out]
    simp only [q0, q1, Bool.true_and, Bool.and_true, Bool.false_and, Bool.and_false, Bool.and_self]
   subst q1
   clear HR
   go_wp2
   go_ret
   exact ⟨by rw [HF.out]; rfl, HB.out⟩
  | true =>
   go_wp2_with fail
   clear x0 y0 x1 y1 x2 y2 x3 y3 x4 y4 x5 y5 x6 y6 x7 y7 x8 y8 x9 y9 x10 y10 x11 y11
   refine (HT.out w2 HB.out).mono ?_
   rintro e w3 ⟨rfl, hb3⟩
   have x12 := (HX.out.below hb3).cell 12 rfl
   have y12 := (HY.out.below hb3).cell 12 rfl
   have x13 := (HX.out.below hb3).cell 13 rfl
   have y13 := (HY.out.below hb3).cell 13 rfl
   have x14 := (HX.out.below hb3).cell 14 rfl
   have y14 := (HY.out.below hb3).cell 14 rfl
   have x15 := (HX.out.below hb3).cell 15 rfl
   have y15 := (HY.out.below hb3).cell 15 rfl
   have x16 := (HX.out.below hb3).cell 16 rfl
   have y16 := (HY.out.below hb3).cell 16 rfl
   have x17 := (HX.out.below hb3).cell 17 rfl
   have y17 := (HY.out.below hb3).cell 17 rfl
   have x18 := (HX.out.below hb3).cell 18 rfl
   have y18 := (HY.out.below hb3).cell 18 rfl
   have x19 := (HX.out.below hb3).cell 19 rfl
   have y19 := (HY.out.below hb3).cell 19 rfl
   have x20 := (HX.out.below hb3).cell 20 rfl
   have y20 := (HY.out.below hb3).cell 20 rfl
   have HB3 : Hid (Below w.heap.size w w3) := HB.out.trans (hb3.mono HB.out.size)
   clear hb3 HX HY HB HT
   cases q2 : S with
   | false =>
    have HF : Hid (R = false) := by
     show _ = _
     rw [HR.out]
     simp only [q0, q1, q2, Bool.true_and, Bool.and_true, Bool.false_and, Bool.and_false, Bool.and_self]
    subst q2
    clear HR
    go_wp2
    go_ret
    exact ⟨by rw [HF.out]; rfl, HB3.out⟩
   | true =>
    cases q3 : C with
    | false =>
     have HF : Hid (R = false) := by
      show _ = _
      rw [HR.out]
      simp only [q0, q1, q2, q3, Bool.true_and, Bool.and_true, Bool.false_and, Bool.and_false, Bool.and_self]
     subst q3
     clear HR
     go_wp2
     go_ret
     exact ⟨by rw [HF.out]; rfl, HB3.out⟩
    | true =>
     cases q4 : (ab == bb) with
     | false =>
      have HF : Hid (R = false) := by
       show _ = _
       rw [HR.out]
       simp only [q0, q1, q2, q3, q4, Bool.true_and, Bool.and_true, Bool.false_and, Bool.and_false, Bool.and_self]
      clear HR
      go_wp2
      go_ret
      exact ⟨by rw [HF.out]; rfl, HB3.out⟩
     | true =>
      cases q5 : (aw == bw) with
      | false =>
       have HF : Hid (R = false) := by
        show _ = _
        rw [HR.out]
        simp only [q0, q1, q2, q3, q4, q5, Bool.true_and, Bool.and_true, Bool.false_and, Bool.and_false, Bool.and_self]
       clear HR
       go_wp2
       go_ret
       exact ⟨by rw [HF.out]; rfl, HB3.out⟩
      | true =>
       have HF : Hid (R = true) := by
        show _ = _
        rw [HR.out]
        simp only [q0, q1, q2, q3, q4, q5, Bool.true_and, Bool.and_true, Bool.false_and, Bool.and_false, Bool.and_self]
       clear HR
       go_wp2
       go_ret
       exact ⟨by rw [HF.out]; rfl, HB3.out⟩
end Go.Proofs.YthgcnmilaifkoaaGreatDoor
