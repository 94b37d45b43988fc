import Derived.Test.YtieonnnlhhdfpaaGreatDoorRcOpL
import Derived.Test.YtieonnnlhhdfpaaGreatDoorRcOa1
import Derived.Test.YtieonnnlhhdfpaaGreatDoorRcOa2
import Derived.Test.YtieonnnlhhdfpaaGreatDoorRcOa3
import Derived.Test.YtieonnnlhhdfpaaGreatDoorRcOa4
import Derived.Test.YtieonnnlhhdfpaaGreatDoorRcOa5
import Derived.Test.YtieonnnlhhdfpaaGreatDoorRcOa6
import Derived.Test.YtieonnnlhhdfpaaGreatDoorJAppS
/- Layer 9 (records): FixOp, none of the six. -/
namespace Go.Proofs.YtieonnnlhhdfpaaGreatDoor
open Go.RowKit
set_option linter.unusedVariables false

set_option maxRecDepth 100000 in
set_option maxHeartbeats 8000000 in
theorem fixOpa7_false (o : Opp) (hk : ¬ o.kind = 1 ∧ ¬ o.kind = 2 ∧ ¬ o.kind = 3 ∧ ¬ o.kind = 4 ∧ ¬ o.kind = 5 ∧ ¬ o.kind = 6) (hcas : o.cas = false) (ta : Option Addr) (tc : Nat) (w : World) (hs : o.small) (hc : CellsAt w ta (o.svc.tags.map Value.string)) (hv : Vs w) :
    Calls Tryz.prog 58 #[.agg (o.v (.slice ta o.svc.tags.length tc))] w fun e w' => OppA w (oppF o) (oppE o) e w' := by
  obtain ⟨hn1, hn2, hsv, hck⟩ := hs
  have HSV : Hid (Sp.small o.svc) := hsv
  have HCK : Hid (Ck.small o.chk) := hck
  have HC : Hid (CellsAt w ta (o.svc.tags.map Value.string)) := hc
  have HV : Hid (Vs w) := hv
  clear hsv hck hc hv
  obtain ⟨hk1, hk2, hk3, hk4, hk5, hk6⟩ := hk
  have HE : Hid (oppE o = 96) := by unfold oppE; rw [Hid, if_neg hk1, if_neg hk2, if_neg hk3, if_neg hk4, if_neg hk5, if_neg hk6]
  have HFn : Hid (oppF o = oppZ) := by unfold oppF; rw [Hid, if_neg (fun e => by rw [HE.out] at e; cases e)]
  rw [HE.out, HFn.out]
  clear HE HFn HSV HCK HC
  obtain ⟨kd, ⟨nn, na, n3, n4⟩, ⟨sn, si, sm, sp, tg, s6, s7⟩, ⟨cn, ci, cs, ct, ce, c6, c7⟩, cas, wt⟩ := o
  simp only [Opp.v] at *
  subst hcas
  have q1 : (kd == 1) = false := by simpa using hk1
  have q2 : (kd == 2) = false := by simpa using hk2
  have q3 : (kd == 3) = false := by simpa using hk3
  have q4 : (kd == 4) = false := by simpa using hk4
  have q5 : (kd == 5) = false := by simpa using hk5
  have q6 : (kd == 6) = false := by simpa using hk6
  clear hk1 hk2 hk3 hk4 hk5 hk6
  generalize tg.length = tl at *
  obtain ⟨b1, b2, b3, b4⟩ := three_new w (.cells #[.int .i64 kd, .string nn, .string na, .int .u64 n3, .int .u64 n4, .string sn, .string si, .string sm, .int .i64 sp, .slice ta tl tc, .int .u64 s6, .int .u64 s7, .string cn, .string ci, .string cs, .int .i64 ct, .string ce, .int .u64 c6, .int .u64 c7, .bool false, .int .u64 wt] 58) (.cells #[.int .i64 0, .string ⟨#[]⟩, .string ⟨#[]⟩, .int .u64 0, .int .u64 0, .string ⟨#[]⟩, .string ⟨#[]⟩, .string ⟨#[]⟩, .int .i64 0, .slice none 0 0, .int .u64 0, .int .u64 0, .string ⟨#[]⟩, .string ⟨#[]⟩, .string ⟨#[]⟩, .int .i64 0, .string ⟨#[]⟩, .int .u64 0, .int .u64 0, .bool false, .int .u64 0] 58) (.cells #[.int .i64 kd, .string ⟨#[]⟩, .string ⟨#[]⟩, .int .u64 0, .int .u64 0, .string ⟨#[]⟩, .string ⟨#[]⟩, .string ⟨#[]⟩, .int .i64 0, .slice none 0 0, .int .u64 0, .int .u64 0, .string ⟨#[]⟩, .string ⟨#[]⟩, .string ⟨#[]⟩, .int .i64 0, .string ⟨#[]⟩, .int .u64 0, .int .u64 0, .bool false, .int .u64 0] 58)
  obtain ⟨w3, Hw3⟩ : ∃ w3, Hid (w3 = ((w.alloc (.cells #[.int .i64 kd, .string nn, .string na, .int .u64 n3, .int .u64 n4, .string sn, .string si, .string sm, .int .i64 sp, .slice ta tl tc, .int .u64 s6, .int .u64 s7, .string cn, .string ci, .string cs, .int .i64 ct, .string ce, .int .u64 c6, .int .u64 c7, .bool false, .int .u64 wt] 58)).alloc (.cells #[.int .i64 0, .string ⟨#[]⟩, .string ⟨#[]⟩, .int .u64 0, .int .u64 0, .string ⟨#[]⟩, .string ⟨#[]⟩, .string ⟨#[]⟩, .int .i64 0, .slice none 0 0, .int .u64 0, .int .u64 0, .string ⟨#[]⟩, .string ⟨#[]⟩, .string ⟨#[]⟩, .int .i64 0, .string ⟨#[]⟩, .int .u64 0, .int .u64 0, .bool false, .int .u64 0] 58)).alloc (.cells #[.int .i64 kd, .string ⟨#[]⟩, .string ⟨#[]⟩, .int .u64 0, .int .u64 0, .string ⟨#[]⟩, .string ⟨#[]⟩, .string ⟨#[]⟩, .int .i64 0, .slice none 0 0, .int .u64 0, .int .u64 0, .string ⟨#[]⟩, .string ⟨#[]⟩, .string ⟨#[]⟩, .int .i64 0, .string ⟨#[]⟩, .int .u64 0, .int .u64 0, .bool false, .int .u64 0] 58)) := ⟨_, rfl⟩
  have HA3 : Hid (Blk w3 w.heap.size #[.int .i64 kd, .string nn, .string na, .int .u64 n3, .int .u64 n4, .string sn, .string si, .string sm, .int .i64 sp, .slice ta tl tc, .int .u64 s6, .int .u64 s7, .string cn, .string ci, .string cs, .int .i64 ct, .string ce, .int .u64 c6, .int .u64 c7, .bool false, .int .u64 wt] 58) := by rw [Hw3.out]; exact b1
  have HR3 : Hid (Blk w3 (w.heap.size + 1) #[.int .i64 0, .string ⟨#[]⟩, .string ⟨#[]⟩, .int .u64 0, .int .u64 0, .string ⟨#[]⟩, .string ⟨#[]⟩, .string ⟨#[]⟩, .int .i64 0, .slice none 0 0, .int .u64 0, .int .u64 0, .string ⟨#[]⟩, .string ⟨#[]⟩, .string ⟨#[]⟩, .int .i64 0, .string ⟨#[]⟩, .int .u64 0, .int .u64 0, .bool false, .int .u64 0] 58) := by rw [Hw3.out]; exact b2
  have HF3 : Hid (Blk w3 (w.heap.size + 1 + 1) #[.int .i64 kd, .string ⟨#[]⟩, .string ⟨#[]⟩, .int .u64 0, .int .u64 0, .string ⟨#[]⟩, .string ⟨#[]⟩, .string ⟨#[]⟩, .int .i64 0, .slice none 0 0, .int .u64 0, .int .u64 0, .string ⟨#[]⟩, .string ⟨#[]⟩, .string ⟨#[]⟩, .int .i64 0, .string ⟨#[]⟩, .int .u64 0, .int .u64 0, .bool false, .int .u64 0] 58) := by rw [Hw3.out]; exact b3
  have HB3 : Hid (Below w.heap.size w w3) := by rw [Hw3.out]; exact b4
  clear b1 b2 b3 b4
  go_enter Tryz.func58, Tryz.ntmps58
  have HZz : Hid (OppA w oppZ 96 (.returned (.tuple #[.agg #[.int .i64 0, .string ⟨#[]⟩, .string ⟨#[]⟩, .int .u64 0, .int .u64 0, .string ⟨#[]⟩, .string ⟨#[]⟩, .string ⟨#[]⟩, .int .i64 0, .slice none 0 0, .int .u64 0, .int .u64 0, .string ⟨#[]⟩, .string ⟨#[]⟩, .string ⟨#[]⟩, .int .i64 0, .string ⟨#[]⟩, .int .u64 0, .int .u64 0, .bool false, .int .u64 0], .int .i64 96])) (w3.setRow (w.heap.size + 1) #[.int .i64 0, .string ⟨#[]⟩, .string ⟨#[]⟩, .int .u64 0, .int .u64 0, .string ⟨#[]⟩, .string ⟨#[]⟩, .string ⟨#[]⟩, .int .i64 0, .slice none 0 0, .int .u64 0, .int .u64 0, .string ⟨#[]⟩, .string ⟨#[]⟩, .string ⟨#[]⟩, .int .i64 0, .string ⟨#[]⟩, .int .u64 0, .int .u64 0, .bool false, .int .u64 0])) := ⟨.slice none 0 0, rfl, World.ownsRow_nil _ _ _ _, below_setRow HB3.out (by omega) _⟩
  have HLd : Hid ((loadVar 58 ⟨(w.heap.size + 1), 0, none⟩).run Tryz.prog (w3.setRow (w.heap.size + 1) #[.int .i64 0, .string ⟨#[]⟩, .string ⟨#[]⟩, .int .u64 0, .int .u64 0, .string ⟨#[]⟩, .string ⟨#[]⟩, .string ⟨#[]⟩, .int .i64 0, .slice none 0 0, .int .u64 0, .int .u64 0, .string ⟨#[]⟩, .string ⟨#[]⟩, .string ⟨#[]⟩, .int .i64 0, .string ⟨#[]⟩, .int .u64 0, .int .u64 0, .bool false, .int .u64 0]) = .ok (.agg #[.int .i64 0, .string ⟨#[]⟩, .string ⟨#[]⟩, .int .u64 0, .int .u64 0, .string ⟨#[]⟩, .string ⟨#[]⟩, .string ⟨#[]⟩, .int .i64 0, .slice none 0 0, .int .u64 0, .int .u64 0, .string ⟨#[]⟩, .string ⟨#[]⟩, .string ⟨#[]⟩, .int .i64 0, .string ⟨#[]⟩, .int .u64 0, .int .u64 0, .bool false, .int .u64 0]) (w3.setRow (w.heap.size + 1) #[.int .i64 0, .string ⟨#[]⟩, .string ⟨#[]⟩, .int .u64 0, .int .u64 0, .string ⟨#[]⟩, .string ⟨#[]⟩, .string ⟨#[]⟩, .int .i64 0, .slice none 0 0, .int .u64 0, .int .u64 0, .string ⟨#[]⟩, .string ⟨#[]⟩, .string ⟨#[]⟩, .int .i64 0, .string ⟨#[]⟩, .int .u64 0, .int .u64 0, .bool false, .int .u64 0])) := load_op (blk_setRow HR3.out _) rfl
  iterate 36 go_step
  refine wp_store_op rfl ?_ rfl rfl rfl rfl (by simp [Value.oneCell']) ?_
  · simp only [size_new]
  go_upto_region 20 with fail
  rw [← Hw3.out]
  iterate 8 go_step
  refine wp_put_op rfl HR3.out rfl rfl rfl rfl (by simp [Value.oneCell']) ?_
  go_wp2
  exact ret_box (g := (w.heap.size + 1)) (w := (w3.setRow (w.heap.size + 1) #[.int .i64 0, .string ⟨#[]⟩, .string ⟨#[]⟩, .int .u64 0, .int .u64 0, .string ⟨#[]⟩, .string ⟨#[]⟩, .string ⟨#[]⟩, .int .i64 0, .slice none 0 0, .int .u64 0, .int .u64 0, .string ⟨#[]⟩, .string ⟨#[]⟩, .string ⟨#[]⟩, .int .i64 0, .string ⟨#[]⟩, .int .u64 0, .int .u64 0, .bool false, .int .u64 0])) (e := .int .i64 96) rfl rfl rfl rfl HLd.out HZz.out
set_option maxRecDepth 100000 in
set_option maxHeartbeats 8000000 in
theorem fixOpa7_true (o : Opp) (hk : ¬ o.kind = 1 ∧ ¬ o.kind = 2 ∧ ¬ o.kind = 3 ∧ ¬ o.kind = 4 ∧ ¬ o.kind = 5 ∧ ¬ o.kind = 6) (hcas : o.cas = true) (ta : Option Addr) (tc : Nat) (w : World) (hs : o.small) (hc : CellsAt w ta (o.svc.tags.map Value.string)) (hv : Vs w) :
    Calls Tryz.prog 58 #[.agg (o.v (.slice ta o.svc.tags.length tc))] w fun e w' => OppA w (oppF o) (oppE o) e w' := by
  obtain ⟨hn1, hn2, hsv, hck⟩ := hs
  have HSV : Hid (Sp.small o.svc) := hsv
  have HCK : Hid (Ck.small o.chk) := hck
  have HC : Hid (CellsAt w ta (o.svc.tags.map Value.string)) := hc
  have HV : Hid (Vs w) := hv
  clear hsv hck hc hv
  obtain ⟨hk1, hk2, hk3, hk4, hk5, hk6⟩ := hk
  have HE : Hid (oppE o = 96) := by unfold oppE; rw [Hid, if_neg hk1, if_neg hk2, if_neg hk3, if_neg hk4, if_neg hk5, if_neg hk6]
  have HFn : Hid (oppF o = oppZ) := by unfold oppF; rw [Hid, if_neg (fun e => by rw [HE.out] at e; cases e)]
  rw [HE.out, HFn.out]
  clear HE HFn HSV HCK HC
  obtain ⟨kd, ⟨nn, na, n3, n4⟩, ⟨sn, si, sm, sp, tg, s6, s7⟩, ⟨cn, ci, cs, ct, ce, c6, c7⟩, cas, wt⟩ := o
  simp only [Opp.v] at *
  subst hcas
  have q1 : (kd == 1) = false := by simpa using hk1
  have q2 : (kd == 2) = false := by simpa using hk2
  have q3 : (kd == 3) = false := by simpa using hk3
  have q4 : (kd == 4) = false := by simpa using hk4
  have q5 : (kd == 5) = false := by simpa using hk5
  have q6 : (kd == 6) = false := by simpa using hk6
  clear hk1 hk2 hk3 hk4 hk5 hk6
  generalize tg.length = tl at *
  obtain ⟨b1, b2, b3, b4⟩ := three_new w (.cells #[.int .i64 kd, .string nn, .string na, .int .u64 n3, .int .u64 n4, .string sn, .string si, .string sm, .int .i64 sp, .slice ta tl tc, .int .u64 s6, .int .u64 s7, .string cn, .string ci, .string cs, .int .i64 ct, .string ce, .int .u64 c6, .int .u64 c7, .bool true, .int .u64 wt] 58) (.cells #[.int .i64 0, .string ⟨#[]⟩, .string ⟨#[]⟩, .int .u64 0, .int .u64 0, .string ⟨#[]⟩, .string ⟨#[]⟩, .string ⟨#[]⟩, .int .i64 0, .slice none 0 0, .int .u64 0, .int .u64 0, .string ⟨#[]⟩, .string ⟨#[]⟩, .string ⟨#[]⟩, .int .i64 0, .string ⟨#[]⟩, .int .u64 0, .int .u64 0, .bool false, .int .u64 0] 58) (.cells #[.int .i64 kd, .string ⟨#[]⟩, .string ⟨#[]⟩, .int .u64 0, .int .u64 0, .string ⟨#[]⟩, .string ⟨#[]⟩, .string ⟨#[]⟩, .int .i64 0, .slice none 0 0, .int .u64 0, .int .u64 0, .string ⟨#[]⟩, .string ⟨#[]⟩, .string ⟨#[]⟩, .int .i64 0, .string ⟨#[]⟩, .int .u64 0, .int .u64 0, .bool true, .int .u64 wt] 58)
  obtain ⟨w3, Hw3⟩ : ∃ w3, Hid (w3 = ((w.alloc (.cells #[.int .i64 kd, .string nn, .string na, .int .u64 n3, .int .u64 n4, .string sn, .string si, .string sm, .int .i64 sp, .slice ta tl tc, .int .u64 s6, .int .u64 s7, .string cn, .string ci, .string cs, .int .i64 ct, .string ce, .int .u64 c6, .int .u64 c7, .bool true, .int .u64 wt] 58)).alloc (.cells #[.int .i64 0, .string ⟨#[]⟩, .string ⟨#[]⟩, .int .u64 0, .int .u64 0, .string ⟨#[]⟩, .string ⟨#[]⟩, .string ⟨#[]⟩, .int .i64 0, .slice none 0 0, .int .u64 0, .int .u64 0, .string ⟨#[]⟩, .string ⟨#[]⟩, .string ⟨#[]⟩, .int .i64 0, .string ⟨#[]⟩, .int .u64 0, .int .u64 0, .bool false, .int .u64 0] 58)).alloc (.cells #[.int .i64 kd, .string ⟨#[]⟩, .string ⟨#[]⟩, .int .u64 0, .int .u64 0, .string ⟨#[]⟩, .string ⟨#[]⟩, .string ⟨#[]⟩, .int .i64 0, .slice none 0 0, .int .u64 0, .int .u64 0, .string ⟨#[]⟩, .string ⟨#[]⟩, .string ⟨#[]⟩, .int .i64 0, .string ⟨#[]⟩, .int .u64 0, .int .u64 0, .bool true, .int .u64 wt] 58)) := ⟨_, rfl⟩
  have HA3 : Hid (Blk w3 w.heap.size #[.int .i64 kd, .string nn, .string na, .int .u64 n3, .int .u64 n4, .string sn, .string si, .string sm, .int .i64 sp, .slice ta tl tc, .int .u64 s6, .int .u64 s7, .string cn, .string ci, .string cs, .int .i64 ct, .string ce, .int .u64 c6, .int .u64 c7, .bool true, .int .u64 wt] 58) := by rw [Hw3.out]; exact b1
  have HR3 : Hid (Blk w3 (w.heap.size + 1) #[.int .i64 0, .string ⟨#[]⟩, .string ⟨#[]⟩, .int .u64 0, .int .u64 0, .string ⟨#[]⟩, .string ⟨#[]⟩, .string ⟨#[]⟩, .int .i64 0, .slice none 0 0, .int .u64 0, .int .u64 0, .string ⟨#[]⟩, .string ⟨#[]⟩, .string ⟨#[]⟩, .int .i64 0, .string ⟨#[]⟩, .int .u64 0, .int .u64 0, .bool false, .int .u64 0] 58) := by rw [Hw3.out]; exact b2
  have HF3 : Hid (Blk w3 (w.heap.size + 1 + 1) #[.int .i64 kd, .string ⟨#[]⟩, .string ⟨#[]⟩, .int .u64 0, .int .u64 0, .string ⟨#[]⟩, .string ⟨#[]⟩, .string ⟨#[]⟩, .int .i64 0, .slice none 0 0, .int .u64 0, .int .u64 0, .string ⟨#[]⟩, .string ⟨#[]⟩, .string ⟨#[]⟩, .int .i64 0, .string ⟨#[]⟩, .int .u64 0, .int .u64 0, .bool true, .int .u64 wt] 58) := by rw [Hw3.out]; exact b3
  have HB3 : Hid (Below w.heap.size w w3) := by rw [Hw3.out]; exact b4
  clear b1 b2 b3 b4
  go_enter Tryz.func58, Tryz.ntmps58
  have HZz : Hid (OppA w oppZ 96 (.returned (.tuple #[.agg #[.int .i64 0, .string ⟨#[]⟩, .string ⟨#[]⟩, .int .u64 0, .int .u64 0, .string ⟨#[]⟩, .string ⟨#[]⟩, .string ⟨#[]⟩, .int .i64 0, .slice none 0 0, .int .u64 0, .int .u64 0, .string ⟨#[]⟩, .string ⟨#[]⟩, .string ⟨#[]⟩, .int .i64 0, .string ⟨#[]⟩, .int .u64 0, .int .u64 0, .bool false, .int .u64 0], .int .i64 96])) (w3.setRow (w.heap.size + 1) #[.int .i64 0, .string ⟨#[]⟩, .string ⟨#[]⟩, .int .u64 0, .int .u64 0, .string ⟨#[]⟩, .string ⟨#[]⟩, .string ⟨#[]⟩, .int .i64 0, .slice none 0 0, .int .u64 0, .int .u64 0, .string ⟨#[]⟩, .string ⟨#[]⟩, .string ⟨#[]⟩, .int .i64 0, .string ⟨#[]⟩, .int .u64 0, .int .u64 0, .bool false, .int .u64 0])) := ⟨.slice none 0 0, rfl, World.ownsRow_nil _ _ _ _, below_setRow HB3.out (by omega) _⟩
  have HLd : Hid ((loadVar 58 ⟨(w.heap.size + 1), 0, none⟩).run Tryz.prog (w3.setRow (w.heap.size + 1) #[.int .i64 0, .string ⟨#[]⟩, .string ⟨#[]⟩, .int .u64 0, .int .u64 0, .string ⟨#[]⟩, .string ⟨#[]⟩, .string ⟨#[]⟩, .int .i64 0, .slice none 0 0, .int .u64 0, .int .u64 0, .string ⟨#[]⟩, .string ⟨#[]⟩, .string ⟨#[]⟩, .int .i64 0, .string ⟨#[]⟩, .int .u64 0, .int .u64 0, .bool false, .int .u64 0]) = .ok (.agg #[.int .i64 0, .string ⟨#[]⟩, .string ⟨#[]⟩, .int .u64 0, .int .u64 0, .string ⟨#[]⟩, .string ⟨#[]⟩, .string ⟨#[]⟩, .int .i64 0, .slice none 0 0, .int .u64 0, .int .u64 0, .string ⟨#[]⟩, .string ⟨#[]⟩, .string ⟨#[]⟩, .int .i64 0, .string ⟨#[]⟩, .int .u64 0, .int .u64 0, .bool false, .int .u64 0]) (w3.setRow (w.heap.size + 1) #[.int .i64 0, .string ⟨#[]⟩, .string ⟨#[]⟩, .int .u64 0, .int .u64 0, .string ⟨#[]⟩, .string ⟨#[]⟩, .string ⟨#[]⟩, .int .i64 0, .slice none 0 0, .int .u64 0, .int .u64 0, .string ⟨#[]⟩, .string ⟨#[]⟩, .string ⟨#[]⟩, .int .i64 0, .string ⟨#[]⟩, .int .u64 0, .int .u64 0, .bool false, .int .u64 0])) := load_op (blk_setRow HR3.out _) rfl
  iterate 36 go_step
  refine wp_store_op rfl ?_ rfl rfl rfl rfl (by simp [Value.oneCell']) ?_
  · simp only [size_new]
  go_upto_region 20 with fail
  rw [← Hw3.out]
  iterate 8 go_step
  refine wp_put_op rfl HR3.out rfl rfl rfl rfl (by simp [Value.oneCell']) ?_
  go_wp2
  exact ret_box (g := (w.heap.size + 1)) (w := (w3.setRow (w.heap.size + 1) #[.int .i64 0, .string ⟨#[]⟩, .string ⟨#[]⟩, .int .u64 0, .int .u64 0, .string ⟨#[]⟩, .string ⟨#[]⟩, .string ⟨#[]⟩, .int .i64 0, .slice none 0 0, .int .u64 0, .int .u64 0, .string ⟨#[]⟩, .string ⟨#[]⟩, .string ⟨#[]⟩, .int .i64 0, .string ⟨#[]⟩, .int .u64 0, .int .u64 0, .bool false, .int .u64 0])) (e := .int .i64 96) rfl rfl rfl rfl HLd.out HZz.out
end Go.Proofs.YtieonnnlhhdfpaaGreatDoor

/- Layer 9 (records): FixOp, whole. -/
namespace Go.Proofs.YtieonnnlhhdfpaaGreatDoor
open Go.RowKit

theorem fixOp_calls (o : Opp) (ta : Option Addr) (tc : Nat) (w : World) (hs : o.small) (hc : CellsAt w ta (o.svc.tags.map Value.string)) (hv : Vs w) :
    Calls Tryz.prog 58 #[.agg (o.v (.slice ta o.svc.tags.length tc))] w fun e w' => OppA w (oppF o) (oppE o) e w' := by
  rcases hb : o.cas
  · by_cases h1 : o.kind = 1
    · exact fixOpa1_false o h1 hb ta tc w hs hc hv
    by_cases h2 : o.kind = 2
    · exact fixOpa2_false o h2 hb ta tc w hs hc hv
    by_cases h3 : o.kind = 3
    · exact fixOpa3_false o h3 hb ta tc w hs hc hv
    by_cases h4 : o.kind = 4
    · exact fixOpa4_false o h4 hb ta tc w hs hc hv
    by_cases h5 : o.kind = 5
    · exact fixOpa5_false o h5 hb ta tc w hs hc hv
    by_cases h6 : o.kind = 6
    · exact fixOpa6_false o h6 hb ta tc w hs hc hv
    exact fixOpa7_false o ⟨h1, h2, h3, h4, h5, h6⟩ hb ta tc w hs hc hv
  · by_cases h1 : o.kind = 1
    · exact fixOpa1_true o h1 hb ta tc w hs hc hv
    by_cases h2 : o.kind = 2
    · exact fixOpa2_true o h2 hb ta tc w hs hc hv
    by_cases h3 : o.kind = 3
    · exact fixOpa3_true o h3 hb ta tc w hs hc hv
    by_cases h4 : o.kind = 4
    · exact fixOpa4_true o h4 hb ta tc w hs hc hv
    by_cases h5 : o.kind = 5
    · exact fixOpa5_true o h5 hb ta tc w hs hc hv
    by_cases h6 : o.kind = 6
    · exact fixOpa6_true o h6 hb ta tc w hs hc hv
    exact fixOpa7_true o ⟨h1, h2, h3, h4, h5, h6⟩ hb ta tc w hs hc hv
end Go.Proofs.YtieonnnlhhdfpaaGreatDoor

/- Layer 9 (records): an operation that is fixed stays as it is; great letters and small ones are fixed alike. Plain. -/
namespace Go.Proofs.YtieonnnlhhdfpaaGreatDoor
open Go.RowKit

theorem sp_again {s : ByteArray} (h : spE s = 0) : spE (spT s) = 0 ∧ spT (spT s) = spT s := by
  by_cases hz : s.size = 0
  · have e : spT s = ⟨#[]⟩ := by unfold spT; rw [if_pos hz]
    rw [e]
    exact ⟨rfl, rfl⟩
  · have e : spT s = labT s := by unfold spT; rw [if_neg hz]
    have e2 : spE s = labE s := by unfold spE; rw [if_neg hz]
    rw [e2] at h
    obtain ⟨k1, k2⟩ := lab_again h
    have hz2 : ¬ (labT s).size = 0 := by
      rw [(lab_yes (lab_zero h)).1, lowS_size]
      exact hz
    rw [e]
    refine ⟨?_, ?_⟩
    · unfold spE; rw [if_neg hz2]; exact k1
    · conv => lhs; unfold spT
      rw [if_neg hz2]
      exact k2
theorem chk_again {c : Ck} (h : chkE c = 0) : chkE (chkF c) = 0 ∧ chkF (chkF c) = chkF c := by
  obtain ⟨h1, h2, h3, h4⟩ := chk_parts h
  obtain ⟨i1, i2⟩ := orE_zero h1
  obtain ⟨a1, a2⟩ := lab_again i1
  obtain ⟨b1, b2⟩ := lab_again i2
  obtain ⟨c1, c2⟩ := sp_again h2
  rw [chk_yes h]
  have e : chkE ⟨labT c.node, labT c.id, spT c.service, c.status, c.note, 0, 0⟩ = 0 := by
    unfold chkE
    simp only [firstE, orE, idE, a1, b1, c1, h3, h4, if_true]
  refine ⟨e, ?_⟩
  rw [chk_yes e]
  simp only [a2, b2, c2]
theorem id_again {a b : ByteArray} (h : idE a b = 0) : idE (labT a) (labT b) = 0 ∧ labT (labT a) = labT a ∧ labT (labT b) = labT b := by
  obtain ⟨i1, i2⟩ := orE_zero h
  obtain ⟨a1, a2⟩ := lab_again i1
  obtain ⟨b1, b2⟩ := lab_again i2
  refine ⟨?_, a2, b2⟩
  unfold idE orE
  rw [if_pos a1]
  exact b1
theorem want_again (k : Int) (n : Nd) (s : Sp) (c : Ck) (b : Bool) (x : Int) : wantF ⟨k, n, s, c, b, if b then x else 0⟩ = if b then x else 0 := by
  unfold wantF
  cases b <;> rfl
/-- What is fixed is fixed. -/
theorem opp_again {o : Opp} (h : oppE o = 0) : oppE (oppF o) = 0 ∧ oppF (oppF o) = oppF o := by
  have hF : oppF o = oppN o := if_pos h
  suffices hh : oppE (oppN o) = 0 ∧ oppN (oppN o) = oppN o by
    rw [hF]
    refine ⟨hh.1, ?_⟩
    unfold oppF
    rw [if_pos hh.1]
    exact hh.2
  obtain ⟨k, n, s, c, b, x⟩ := o
  unfold oppE at h
  dsimp only at h
  by_cases h1 : k = 1
  · subst h1
    obtain ⟨a1, a2⟩ := node_again (n := n) (by simpa using h)
    cases b <;> simp [oppN, oppE, wantF, a1, a2]
  by_cases h2 : k = 2
  · subst h2
    obtain ⟨a1, a2⟩ := svc_again (s := s) (by simpa using h)
    cases b <;> simp [oppN, oppE, wantF, a1, a2]
  by_cases h3 : k = 3
  · subst h3
    obtain ⟨a1, a2⟩ := chk_again (c := c) (by simpa using h)
    cases b <;> simp [oppN, oppE, wantF, a1, a2]
  by_cases h4 : k = 4
  · subst h4
    obtain ⟨a1, a2⟩ := lab_again (s := n.name) (by simpa using h)
    cases b <;> simp [oppN, oppE, wantF, a1, a2]
  by_cases h5 : k = 5
  · subst h5
    obtain ⟨a1, a2, a3⟩ := id_again (a := s.node) (b := s.id) (by simpa using h)
    cases b <;> simp [oppN, oppE, wantF, a1, a2, a3]
  by_cases h6 : k = 6
  · subst h6
    obtain ⟨a1, a2, a3⟩ := id_again (a := c.node) (b := c.id) (by simpa using h)
    cases b <;> simp [oppN, oppE, wantF, a1, a2, a3]
  · simp [h1, h2, h3, h4, h5, h6] at h
/-- The operation with the law's five texts in small letters. -/
def oppL (o : Opp) : Opp := ⟨o.kind, ⟨lowS o.node.name, o.node.addr, o.node.made, o.node.changed⟩, ⟨lowS o.svc.node, lowS o.svc.id, o.svc.name, o.svc.port, o.svc.tags.map lowS, o.svc.made, o.svc.changed⟩, ⟨o.chk.node, lowS o.chk.id, o.chk.service, o.chk.status, o.chk.note, o.chk.made, o.chk.changed⟩, o.cas, o.want⟩
theorem oppE_low (o : Opp) : oppE (oppL o) = oppE o := by
  simp only [oppE, oppL, nodeE, svcE, chkE, idE, labE_low, tagsE_low]
theorem oppF_low (o : Opp) : oppF (oppL o) = oppF o := by
  unfold oppF
  rw [oppE_low]
  have : oppN (oppL o) = oppN o := by
    simp only [oppN, oppL, fixN, svcF, chkF, nodeE, svcE, chkE, idE, labE_low, labT_low, tagsE_low, tagsB_low, wantF]
    rfl
  rw [this]
/-- What is fixed bears no numbers; its tags rise. -/
theorem opp_zeros (o : Opp) : (oppF o).node.made = 0 ∧ (oppF o).node.changed = 0 ∧ (oppF o).svc.made = 0 ∧ (oppF o).svc.changed = 0 ∧ (oppF o).chk.made = 0 ∧ (oppF o).chk.changed = 0 := by
  unfold oppF
  split
  · unfold oppN
    have hn : (fixN o.node).made = 0 ∧ (fixN o.node).changed = 0 := by unfold fixN; split <;> exact ⟨rfl, rfl⟩
    have hs : (svcF o.svc).made = 0 ∧ (svcF o.svc).changed = 0 := by unfold svcF; split <;> exact ⟨rfl, rfl⟩
    have hc : (chkF o.chk).made = 0 ∧ (chkF o.chk).changed = 0 := by unfold chkF; split <;> exact ⟨rfl, rfl⟩
    split
    · exact ⟨hn.1, hn.2, rfl, rfl, rfl, rfl⟩
    split
    · exact ⟨rfl, rfl, hs.1, hs.2, rfl, rfl⟩
    split
    · exact ⟨rfl, rfl, rfl, rfl, hc.1, hc.2⟩
    repeat' split
    all_goals exact ⟨rfl, rfl, rfl, rfl, rfl, rfl⟩
  · exact ⟨rfl, rfl, rfl, rfl, rfl, rfl⟩
end Go.Proofs.YtieonnnlhhdfpaaGreatDoor

/- Layer 9 (records): small facts of operations in memory that the laws use. -/
namespace Go.Proofs.YtieonnnlhhdfpaaGreatDoor
open Go.RowKit
set_option linter.unusedVariables false

theorem svcF_lenN (s : Sp) : (svcF s).tags.length ≤ 1048576 := by
  by_cases h : svcE s = 0
  · rw [svc_yes h]
    show (tagsB s.tags).length ≤ _
    rw [tagsB_len]
    have h1 := (svc_parts h).2.2.2
    by_cases hk : tagsOk s.tags
    · rw [(tags_yes hk).2]
      refine Nat.le_trans (compact_le _) ?_
      rw [List.length_mergeSort, List.length_map]
      have := hk.1
      omega
    · rw [(tags_no hk).1] at h1
      cases h1
  · rw [svc_no h]
    decide
theorem oppF_lenN (o : Opp) : (oppF o).svc.tags.length ≤ 1048576 := by
  unfold oppF
  split
  · unfold oppN
    split
    · exact Nat.zero_le _
    split
    · exact svcF_lenN _
    repeat' split
    all_goals exact Nat.zero_le _
  · exact Nat.zero_le _
theorem v_oneN (o : Opp) (a : Option Addr) (n c : Nat) : (o.v (.slice a n c)).all (·.oneCell') = true := by simp [Opp.v, Value.oneCell']
theorem wpList_get_opN {ops : Array Oper} {rest : List Oper} {op : Oper} {a : Act} {w : World} {g : Nat} {Q : Exit → Act → World → Prop} {x : Operand} {c : Array Value} (hw : Region.wanted op (yielded ops a.tmps) = true) (ho : op.op = .load 58 x) (hb : Blk w g c 58) (hx : a.eval x = .pointer (some ⟨g, 0, none⟩)) (hs : c.size = 21)
    (h : wpList Tryz.prog ops Q rest (a.put op.dst (.agg c)) w) : wpList Tryz.prog ops Q (op :: rest) a w :=
  wpList_step fun K hK => by
    simp only [hw, if_true]
    exact wp_get_op ho hb hx hs (hK _ _ h)
theorem rowN_store {w : World} {B g n cap k : Nat} {e : TypeId} {l : List Value} (h : w.ownsRow B e 1 (.slice (some ⟨g, 0, none⟩) n cap) n l) (hk : k < n) (u : Value) : (w.setCell ⟨g, k, none⟩ u).ownsRow B e 1 (.slice (some ⟨g, 0, none⟩) n cap) n (l.set k u) := by
  refine ⟨by rw [List.length_set]; exact h.1, ?_⟩
  rcases h.2 with ⟨he, h0⟩ | ⟨g', cap', cur, he, hb, hg, h1, h2, h3, h4⟩
  · cases he
  · simp only [Value.slice.injEq, Option.some.injEq, Addr.mk.injEq] at he
    obtain ⟨⟨rfl, _⟩, _, rfl⟩ := he
    refine .inr ⟨g, cap, cur.setIfInBounds k u, rfl, hb, Lib.heap_setCell_same hg u, h1, h2, by rw [Array.size_setIfInBounds]; exact h3, ?_⟩
    rw [Array.toList_setIfInBounds, List.take_set, h4]
theorem rowN_at {w : World} {B g n cap k : Nat} {e : TypeId} {l : List Value} (h : w.ownsRow B e 1 (.slice (some ⟨g, 0, none⟩) n cap) n l) (hk : k < n) : (∃ v, w.cell? ⟨g, k, none⟩ = some v) ∧ w.frozen? ⟨g, k, none⟩ = false := by
  rcases h.2 with ⟨he, h0⟩ | ⟨g', cap', cur, he, hb, hg, h1, h2, h3, h4⟩
  · cases he
  · simp only [Value.slice.injEq, Option.some.injEq, Addr.mk.injEq] at he
    obtain ⟨⟨rfl, _⟩, _, rfl⟩ := he
    exact ⟨⟨cur[k]'(by omega), by simp [World.cell?, hg, show k < cur.size by omega]⟩, by simp [World.frozen?, hg]⟩
theorem rowN_blk {w : World} {B g n cap : Nat} {e : TypeId} {l : List Value} (h : w.ownsRow B e 1 (.slice (some ⟨g, 0, none⟩) n cap) n l) : B ≤ g ∧ ∃ cur, Blk w g cur e := by
  rcases h.2 with ⟨he, h0⟩ | ⟨g', cap', cur, he, hb, hg, _⟩
  · cases he
  · simp only [Value.slice.injEq, Option.some.injEq, Addr.mk.injEq] at he
    obtain ⟨⟨rfl, _⟩, _, rfl⟩ := he
    exact ⟨hb, cur, hg⟩
theorem Blk.apart {w : World} {a b : Nat} {cs ds : Array Value} {T U : TypeId} (h : Blk w a cs T) (k : Blk w b ds U) (hT : T ≠ U) : a ≠ b := fun e => by
  subst e
  have h' : w.heap[a]? = some (.cells cs T) := h
  have k' : w.heap[a]? = some (.cells ds U) := k
  rw [h'] at k'
  injection k' with k'
  injection k' with _ k'
  exact hT k'
theorem Blk.off {w : World} {b : Nat} {cs : Array Value} {T : TypeId} (h : Blk w b cs T) {a : Addr} (hne : b ≠ a.block) (u : Value) : Blk (w.setCell a u) b cs T := by
  show (w.setCell a u).heap[b]? = _
  rw [heap_setCell_other _ _ _ _ hne]
  exact h
theorem rowN_set1 {w : World} {B g i : Nat} {e T : TypeId} {size : Nat} {v : Value} {n : Nat} {xs : List Value} {cs : Array Value} (hg : Blk w g cs T) (hT : T ≠ e) (h : w.ownsRow B e size v n xs) (u : Value) : (w.setCell ⟨g, i, none⟩ u).ownsRow B e size v n xs := by
  refine ⟨h.1, ?_⟩
  rcases h.2 with h1 | ⟨g', cap, cur, h1, h2, h3, h4⟩
  · exact .inl h1
  · refine .inr ⟨g', cap, cur, h1, h2, ?_, h4⟩
    rw [heap_setCell_other _ _ _ _ (fun e' => by
      have e' : g' = g := e'
      subst e'
      have hg' : w.heap[g']? = some (.cells cs T) := hg
      rw [h3] at hg'
      injection hg' with hg'
      injection hg' with _ hg'
      exact hT hg'.symm)]
    exact h3
/-- The first k tags in small letters. -/
def lowK (l : List ByteArray) (k : Nat) : List ByteArray := (l.take k).map lowS ++ l.drop k
theorem lowK_zero (l : List ByteArray) : lowK l 0 = l := by simp [lowK]
theorem lowK_all (l : List ByteArray) : lowK l l.length = l.map lowS := by simp [lowK]
theorem lowK_len (l : List ByteArray) (k : Nat) : (lowK l k).length = l.length := by
  simp [lowK]
  omega
theorem lowK_at (l : List ByteArray) (k : Nat) (h : k < l.length) : ((lowK l k).map Value.string)[k]? = some (.string l[k]) := by
  have hk : ((l.take k).map lowS).length = k := by simp; omega
  rw [List.getElem?_map, lowK, List.getElem?_append_right (by omega), hk]
  simp [h]
theorem lowK_next (l : List ByteArray) (k : Nat) (h : k < l.length) : ((lowK l k).map Value.string).set k (.string (lowS l[k])) = (lowK l (k + 1)).map Value.string := by
  have hk : ((l.take k).map lowS).length = k := by simp; omega
  rw [← List.map_set]
  congr 1
  unfold lowK
  rw [List.set_append_right _ _ (by omega), hk, Nat.sub_self, List.drop_eq_getElem_cons h, List.set_cons_zero, List.take_succ_eq_append_getElem h, List.map_append, List.append_assoc]
  rfl
def oL1 (o : Opp) : Opp := { o with node := { o.node with name := lowS o.node.name } }
def oL2 (o : Opp) : Opp := { oL1 o with svc := { o.svc with node := lowS o.svc.node } }
def oL3 (o : Opp) : Opp := { oL1 o with svc := { o.svc with node := lowS o.svc.node, id := lowS o.svc.id } }
theorem oL1_v (o : Opp) (s : Value) : (o.v s).setIfInBounds 1 (.string (lowS o.node.name)) = (oL1 o).v s := rfl
theorem oL2_v (o : Opp) (s : Value) : ((oL1 o).v s).setIfInBounds 5 (.string (lowS o.svc.node)) = (oL2 o).v s := rfl
theorem oL3_v (o : Opp) (s : Value) : ((oL2 o).v s).setIfInBounds 6 (.string (lowS o.svc.id)) = (oL3 o).v s := rfl
theorem oL4_v (o : Opp) (s : Value) : ((oL3 o).v s).setIfInBounds 13 (.string (lowS o.chk.id)) = (oppL o).v s := rfl
theorem oppL_small {o : Opp} (h : o.small) : (oppL o).small := by
  obtain ⟨h1, h2, ⟨s1, s2, s3, s4, s5⟩, ⟨c1, c2, c3, c4⟩⟩ := h
  refine ⟨?_, h2, ⟨?_, ?_, s3, ?_, ?_⟩, ⟨c1, ?_, c3, c4⟩⟩
  · show (lowS _).size ≤ _; rw [lowS_size]; exact h1
  · show (lowS _).size ≤ _; rw [lowS_size]; exact s1
  · show (lowS _).size ≤ _; rw [lowS_size]; exact s2
  · show (List.map _ _).length ≤ _; rw [List.length_map]; exact s4
  · intro x hx
    obtain ⟨y, hy, rfl⟩ := List.mem_map.1 hx
    rw [lowS_size]; exact s5 y hy
  · show (lowS _).size ≤ _; rw [lowS_size]; exact c2
/-- The tags of what is fixed rise. -/
theorem svcF_rises (s : Sp) : ((svcF s).tags.map fun b => b.data.toList).Pairwise (· < ·) := by
  by_cases h : svcE s = 0
  · rw [svc_yes h]
    show ((tagsB s.tags).map _).Pairwise _
    have : (tagsB s.tags).map (fun b : ByteArray => b.data.toList) = tagsL s.tags := by
      unfold tagsB
      rw [List.map_map]
      conv => rhs; rw [← List.map_id (tagsL s.tags)]
      exact List.map_congr_left fun b _ => by simp
    rw [this]
    exact tagsL_rising _
  · rw [svc_no h]
    exact List.Pairwise.nil
theorem oppF_rises (o : Opp) : ((oppF o).svc.tags.map fun b => b.data.toList).Pairwise (· < ·) := by
  unfold oppF
  split
  · unfold oppN
    split
    · exact List.Pairwise.nil
    split
    · exact svcF_rises _
    repeat' split
    all_goals exact List.Pairwise.nil
  · exact List.Pairwise.nil
theorem rises_at {l : List ByteArray} (h : (l.map fun b => b.data.toList).Pairwise (· < ·)) (j : Nat) (hj : j + 1 < l.length) : Op.bytesLess (l[j]'(by omega)).toList l[j + 1].toList = true := by
  have h2 := List.pairwise_iff_getElem.1 h j (j + 1) (by simp; omega) (by simpa using hj) (by omega)
  simp only [List.getElem_map] at h2
  rw [bytesLess_eq, ByteArray.toList_eq, ByteArray.toList_eq]
  simpa using h2
theorem labT_size (s : ByteArray) : (labT s).size ≤ s.size := by
  by_cases h : labB s = true
  · rw [(lab_yes h).1, lowS_size]; exact Nat.le_refl _
  · have : labT s = ⟨#[]⟩ := by unfold labT; simp [h]
    rw [this]; exact Nat.zero_le _
theorem spT_size (s : ByteArray) : (spT s).size ≤ s.size := by
  unfold spT
  split
  · exact Nat.zero_le _
  · exact labT_size s
theorem nodeF_small {n : Nd} (h1 : n.name.size ≤ 140737488351296) (h2 : n.addr.size ≤ 140737488351296) : (fixN n).name.size ≤ 140737488351296 ∧ (fixN n).addr.size ≤ 140737488351296 := by
  unfold fixN
  split
  · exact ⟨Nat.le_trans (labT_size _) h1, h2⟩
  · exact ⟨by decide, by decide⟩
theorem svcF_small {s : Sp} (h : s.small) : (svcF s).small := by
  by_cases h0 : svcE s = 0
  · rw [svc_yes h0]
    refine ⟨Nat.le_trans (labT_size _) h.node, Nat.le_trans (labT_size _) h.id, Nat.le_trans (labT_size _) h.name, ?_, ?_⟩
    · have := svcF_lenN s
      rw [svc_yes h0] at this
      exact Nat.le_trans this (by decide)
    · intro x hx
      obtain ⟨y, hy, rfl⟩ := tagsB_mem (tags_zero (svc_parts h0).2.2.2) hx
      rw [lowS_size]; exact h.tags y hy
  · rw [svc_no h0]
    exact ⟨by decide, by decide, by decide, by decide, fun x hx => by cases hx⟩
theorem chkF_small {c : Ck} (h : c.small) : (chkF c).small := by
  by_cases h0 : chkE c = 0
  · rw [chk_yes h0]
    exact ⟨Nat.le_trans (labT_size _) h.node, Nat.le_trans (labT_size _) h.id, Nat.le_trans (spT_size _) h.service, h.note⟩
  · rw [chk_no h0]
    exact ⟨by decide, by decide, by decide, by decide⟩
theorem svcZ_small : svcZ.small := ⟨by decide, by decide, by decide, by decide, fun x hx => by cases hx⟩
theorem chkZ_small : chkZ.small := ⟨by decide, by decide, by decide, by decide⟩
theorem oppF_small {o : Opp} (h : o.small) : (oppF o).small := by
  have hl := fun s : ByteArray => labT_size s
  unfold oppF
  split
  · unfold oppN
    split
    · exact ⟨(nodeF_small h.name h.addr).1, (nodeF_small h.name h.addr).2, svcZ_small, chkZ_small⟩
    split
    · exact ⟨Nat.zero_le _, Nat.zero_le _, svcF_small h.svc, chkZ_small⟩
    split
    · exact ⟨Nat.zero_le _, Nat.zero_le _, svcZ_small, chkF_small h.chk⟩
    split
    · exact ⟨Nat.le_trans (labT_size _) h.name, Nat.zero_le _, svcZ_small, chkZ_small⟩
    split
    · exact ⟨Nat.zero_le _, Nat.zero_le _, ⟨Nat.le_trans (labT_size _) h.svc.node, Nat.le_trans (labT_size _) h.svc.id, Nat.zero_le _, Nat.zero_le _, fun x hx => by cases hx⟩, chkZ_small⟩
    · exact ⟨Nat.zero_le _, Nat.zero_le _, svcZ_small, ⟨Nat.le_trans (labT_size _) h.chk.node, Nat.le_trans (labT_size _) h.chk.id, Nat.zero_le _, Nat.zero_le _⟩⟩
  · exact ⟨Nat.zero_le _, Nat.zero_le _, svcZ_small, chkZ_small⟩
end Go.Proofs.YtieonnnlhhdfpaaGreatDoor
