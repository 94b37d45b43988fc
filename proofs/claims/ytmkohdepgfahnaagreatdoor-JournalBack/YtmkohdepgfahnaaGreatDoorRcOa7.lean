/- Layer 9 (records): FixOp, none of the six. -/
import Derived.Test.YtmkohdepgfahnaaGreatDoorRcSameT
namespace Go.Proofs.YtmkohdepgfahnaaGreatDoor
open Go.RowKit
set_option linter.unusedVariables false

set_option maxRecDepth 100000 in
set_option maxHeartbeats 8000000 in
theorem fixOpa7_false (o : Opp) (hk : ¬ o.kind = 1 ∧ ¬ o.kind = 2 ∧ ¬ o.kind = 3 ∧ ¬ o.kind = 4 ∧ ¬ o.kind = 5 ∧ ¬ o.kind = 6) (hcas : o.cas = false) (ta : Option Addr) (tc : Nat) (w : World) (hs : o.small) (hc : CellsAt w ta (o.svc.tags.map Value.string)) (hv : Vs w) :
    Calls Tryz.prog 52 #[.agg (o.v (.slice ta o.svc.tags.length tc))] w fun e w' => OppA w (oppF o) (oppE o) e w' := by
  obtain ⟨hn1, hn2, hsv, hck⟩ := hs
  have HSV : Hid (Sp.small o.svc) := hsv
  have HCK : Hid (Ck.small o.chk) := hck
  have HC : Hid (CellsAt w ta (o.svc.tags.map Value.string)) := hc
  have HV : Hid (Vs w) := hv
  clear hsv hck hc hv
  obtain ⟨hk1, hk2, hk3, hk4, hk5, hk6⟩ := hk
  have HE : Hid (oppE o = 96) := by unfold oppE; rw [Hid, if_neg hk1, if_neg hk2, if_neg hk3, if_neg hk4, if_neg hk5, if_neg hk6]
  have HFn : Hid (oppF o = oppZ) := by unfold oppF; rw [Hid, if_neg (fun e => by rw [HE.out] at e; cases e)]
  rw [HE.out, HFn.out]
  clear HE HFn HSV HCK HC
  obtain ⟨kd, ⟨nn, na, n3, n4⟩, ⟨sn, si, sm, sp, tg, s6, s7⟩, ⟨cn, ci, cs, ct, ce, c6, c7⟩, cas, wt⟩ := o
  simp only [Opp.v] at *
  subst hcas
  have q1 : (kd == 1) = false := by simpa using hk1
  have q2 : (kd == 2) = false := by simpa using hk2
  have q3 : (kd == 3) = false := by simpa using hk3
  have q4 : (kd == 4) = false := by simpa using hk4
  have q5 : (kd == 5) = false := by simpa using hk5
  have q6 : (kd == 6) = false := by simpa using hk6
  clear hk1 hk2 hk3 hk4 hk5 hk6
  generalize tg.length = tl at *
  obtain ⟨b1, b2, b3, b4⟩ := three_new w (.cells #[.int .i64 kd, .string nn, .string na, .int .u64 n3, .int .u64 n4, .string sn, .string si, .string sm, .int .i64 sp, .slice ta tl tc, .int .u64 s6, .int .u64 s7, .string cn, .string ci, .string cs, .int .i64 ct, .string ce, .int .u64 c6, .int .u64 c7, .bool false, .int .u64 wt] 55) (.cells #[.int .i64 0, .string ⟨#[]⟩, .string ⟨#[]⟩, .int .u64 0, .int .u64 0, .string ⟨#[]⟩, .string ⟨#[]⟩, .string ⟨#[]⟩, .int .i64 0, .slice none 0 0, .int .u64 0, .int .u64 0, .string ⟨#[]⟩, .string ⟨#[]⟩, .string ⟨#[]⟩, .int .i64 0, .string ⟨#[]⟩, .int .u64 0, .int .u64 0, .bool false, .int .u64 0] 55) (.cells #[.int .i64 kd, .string ⟨#[]⟩, .string ⟨#[]⟩, .int .u64 0, .int .u64 0, .string ⟨#[]⟩, .string ⟨#[]⟩, .string ⟨#[]⟩, .int .i64 0, .slice none 0 0, .int .u64 0, .int .u64 0, .string ⟨#[]⟩, .string ⟨#[]⟩, .string ⟨#[]⟩, .int .i64 0, .string ⟨#[]⟩, .int .u64 0, .int .u64 0, .bool false, .int .u64 0] 55)
  obtain ⟨w3, Hw3⟩ : ∃ w3, Hid (w3 = ((w.alloc (.cells #[.int .i64 kd, .string nn, .string na, .int .u64 n3, .int .u64 n4, .string sn, .string si, .string sm, .int .i64 sp, .slice ta tl tc, .int .u64 s6, .int .u64 s7, .string cn, .string ci, .string cs, .int .i64 ct, .string ce, .int .u64 c6, .int .u64 c7, .bool false, .int .u64 wt] 55)).alloc (.cells #[.int .i64 0, .string ⟨#[]⟩, .string ⟨#[]⟩, .int .u64 0, .int .u64 0, .string ⟨#[]⟩, .string ⟨#[]⟩, .string ⟨#[]⟩, .int .i64 0, .slice none 0 0, .int .u64 0, .int .u64 0, .string ⟨#[]⟩, .string ⟨#[]⟩, .string ⟨#[]⟩, .int .i64 0, .string ⟨#[]⟩, .int .u64 0, .int .u64 0, .bool false, .int .u64 0] 55)).alloc (.cells #[.int .i64 kd, .string ⟨#[]⟩, .string ⟨#[]⟩, .int .u64 0, .int .u64 0, .string ⟨#[]⟩, .string ⟨#[]⟩, .string ⟨#[]⟩, .int .i64 0, .slice none 0 0, .int .u64 0, .int .u64 0, .string ⟨#[]⟩, .string ⟨#[]⟩, .string ⟨#[]⟩, .int .i64 0, .string ⟨#[]⟩, .int .u64 0, .int .u64 0, .bool false, .int .u64 0] 55)) := ⟨_, rfl⟩
  have HA3 : Hid (Blk w3 w.heap.size #[.int .i64 kd, .string nn, .string na, .int .u64 n3, .int .u64 n4, .string sn, .string si, .string sm, .int .i64 sp, .slice ta tl tc, .int .u64 s6, .int .u64 s7, .string cn, .string ci, .string cs, .int .i64 ct, .string ce, .int .u64 c6, .int .u64 c7, .bool false, .int .u64 wt] 55) := by rw [Hw3.out]; exact b1
  have HR3 : Hid (Blk w3 (w.heap.size + 1) #[.int .i64 0, .string ⟨#[]⟩, .string ⟨#[]⟩, .int .u64 0, .int .u64 0, .string ⟨#[]⟩, .string ⟨#[]⟩, .string ⟨#[]⟩, .int .i64 0, .slice none 0 0, .int .u64 0, .int .u64 0, .string ⟨#[]⟩, .string ⟨#[]⟩, .string ⟨#[]⟩, .int .i64 0, .string ⟨#[]⟩, .int .u64 0, .int .u64 0, .bool false, .int .u64 0] 55) := by rw [Hw3.out]; exact b2
  have HF3 : Hid (Blk w3 (w.heap.size + 1 + 1) #[.int .i64 kd, .string ⟨#[]⟩, .string ⟨#[]⟩, .int .u64 0, .int .u64 0, .string ⟨#[]⟩, .string ⟨#[]⟩, .string ⟨#[]⟩, .int .i64 0, .slice none 0 0, .int .u64 0, .int .u64 0, .string ⟨#[]⟩, .string ⟨#[]⟩, .string ⟨#[]⟩, .int .i64 0, .string ⟨#[]⟩, .int .u64 0, .int .u64 0, .bool false, .int .u64 0] 55) := by rw [Hw3.out]; exact b3
  have HB3 : Hid (Below w.heap.size w w3) := by rw [Hw3.out]; exact b4
  clear b1 b2 b3 b4
  go_enter Tryz.func52, Tryz.ntmps52
  have HZz : Hid (OppA w oppZ 96 (.returned (.tuple #[.agg #[.int .i64 0, .string ⟨#[]⟩, .string ⟨#[]⟩, .int .u64 0, .int .u64 0, .string ⟨#[]⟩, .string ⟨#[]⟩, .string ⟨#[]⟩, .int .i64 0, .slice none 0 0, .int .u64 0, .int .u64 0, .string ⟨#[]⟩, .string ⟨#[]⟩, .string ⟨#[]⟩, .int .i64 0, .string ⟨#[]⟩, .int .u64 0, .int .u64 0, .bool false, .int .u64 0], .int .i64 96])) (w3.setRow (w.heap.size + 1) #[.int .i64 0, .string ⟨#[]⟩, .string ⟨#[]⟩, .int .u64 0, .int .u64 0, .string ⟨#[]⟩, .string ⟨#[]⟩, .string ⟨#[]⟩, .int .i64 0, .slice none 0 0, .int .u64 0, .int .u64 0, .string ⟨#[]⟩, .string ⟨#[]⟩, .string ⟨#[]⟩, .int .i64 0, .string ⟨#[]⟩, .int .u64 0, .int .u64 0, .bool false, .int .u64 0])) := ⟨.slice none 0 0, rfl, World.ownsRow_nil _ _ _ _, below_setRow HB3.out (by omega) _⟩
  have HLd : Hid ((loadVar 55 ⟨(w.heap.size + 1), 0, none⟩).run Tryz.prog (w3.setRow (w.heap.size + 1) #[.int .i64 0, .string ⟨#[]⟩, .string ⟨#[]⟩, .int .u64 0, .int .u64 0, .string ⟨#[]⟩, .string ⟨#[]⟩, .string ⟨#[]⟩, .int .i64 0, .slice none 0 0, .int .u64 0, .int .u64 0, .string ⟨#[]⟩, .string ⟨#[]⟩, .string ⟨#[]⟩, .int .i64 0, .string ⟨#[]⟩, .int .u64 0, .int .u64 0, .bool false, .int .u64 0]) = .ok (.agg #[.int .i64 0, .string ⟨#[]⟩, .string ⟨#[]⟩, .int .u64 0, .int .u64 0, .string ⟨#[]⟩, .string ⟨#[]⟩, .string ⟨#[]⟩, .int .i64 0, .slice none 0 0, .int .u64 0, .int .u64 0, .string ⟨#[]⟩, .string ⟨#[]⟩, .string ⟨#[]⟩, .int .i64 0, .string ⟨#[]⟩, .int .u64 0, .int .u64 0, .bool false, .int .u64 0]) (w3.setRow (w.heap.size + 1) #[.int .i64 0, .string ⟨#[]⟩, .string ⟨#[]⟩, .int .u64 0, .int .u64 0, .string ⟨#[]⟩, .string ⟨#[]⟩, .string ⟨#[]⟩, .int .i64 0, .slice none 0 0, .int .u64 0, .int .u64 0, .string ⟨#[]⟩, .string ⟨#[]⟩, .string ⟨#[]⟩, .int .i64 0, .string ⟨#[]⟩, .int .u64 0, .int .u64 0, .bool false, .int .u64 0])) := load_op (blk_setRow HR3.out _) rfl
  iterate 36 go_step
  refine wp_store_op rfl ?_ rfl rfl rfl rfl (by simp [Value.oneCell']) ?_
  · simp only [size_new]
  go_upto_region 20 with fail
  rw [← Hw3.out]
  iterate 8 go_step
  refine wp_put_op rfl HR3.out rfl rfl rfl rfl (by simp [Value.oneCell']) ?_
  go_wp2
  exact ret_box (g := (w.heap.size + 1)) (w := (w3.setRow (w.heap.size + 1) #[.int .i64 0, .string ⟨#[]⟩, .string ⟨#[]⟩, .int .u64 0, .int .u64 0, .string ⟨#[]⟩, .string ⟨#[]⟩, .string ⟨#[]⟩, .int .i64 0, .slice none 0 0, .int .u64 0, .int .u64 0, .string ⟨#[]⟩, .string ⟨#[]⟩, .string ⟨#[]⟩, .int .i64 0, .string ⟨#[]⟩, .int .u64 0, .int .u64 0, .bool false, .int .u64 0])) (e := .int .i64 96) rfl rfl rfl rfl HLd.out HZz.out
set_option maxRecDepth 100000 in
set_option maxHeartbeats 8000000 in
theorem fixOpa7_true (o : Opp) (hk : ¬ o.kind = 1 ∧ ¬ o.kind = 2 ∧ ¬ o.kind = 3 ∧ ¬ o.kind = 4 ∧ ¬ o.kind = 5 ∧ ¬ o.kind = 6) (hcas : o.cas = true) (ta : Option Addr) (tc : Nat) (w : World) (hs : o.small) (hc : CellsAt w ta (o.svc.tags.map Value.string)) (hv : Vs w) :
    Calls Tryz.prog 52 #[.agg (o.v (.slice ta o.svc.tags.length tc))] w fun e w' => OppA w (oppF o) (oppE o) e w' := by
  obtain ⟨hn1, hn2, hsv, hck⟩ := hs
  have HSV : Hid (Sp.small o.svc) := hsv
  have HCK : Hid (Ck.small o.chk) := hck
  have HC : Hid (CellsAt w ta (o.svc.tags.map Value.string)) := hc
  have HV : Hid (Vs w) := hv
  clear hsv hck hc hv
  obtain ⟨hk1, hk2, hk3, hk4, hk5, hk6⟩ := hk
  have HE : Hid (oppE o = 96) := by unfold oppE; rw [Hid, if_neg hk1, if_neg hk2, if_neg hk3, if_neg hk4, if_neg hk5, if_neg hk6]
  have HFn : Hid (oppF o = oppZ) := by unfold oppF; rw [Hid, if_neg (fun e => by rw [HE.out] at e; cases e)]
  rw [HE.out, HFn.out]
  clear HE HFn HSV HCK HC
  obtain ⟨kd, ⟨nn, na, n3, n4⟩, ⟨sn, si, sm, sp, tg, s6, s7⟩, ⟨cn, ci, cs, ct, ce, c6, c7⟩, cas, wt⟩ := o
  simp only [Opp.v] at *
  subst hcas
  have q1 : (kd == 1) = false := by simpa using hk1
  have q2 : (kd == 2) = false := by simpa using hk2
  have q3 : (kd == 3) = false := by simpa using hk3
  have q4 : (kd == 4) = false := by simpa using hk4
  have q5 : (kd == 5) = false := by simpa using hk5
  have q6 : (kd == 6) = false := by simpa using hk6
  clear hk1 hk2 hk3 hk4 hk5 hk6
  generalize tg.length = tl at *
  obtain ⟨b1, b2, b3, b4⟩ := three_new w (.cells #[.int .i64 kd, .string nn, .string na, .int .u64 n3, .int .u64 n4, .string sn, .string si, .string sm, .int .i64 sp, .slice ta tl tc, .int .u64 s6, .int .u64 s7, .string cn, .string ci, .string cs, .int .i64 ct, .string ce, .int .u64 c6, .int .u64 c7, .bool true, .int .u64 wt] 55) (.cells #[.int .i64 0, .string ⟨#[]⟩, .string ⟨#[]⟩, .int .u64 0, .int .u64 0, .string ⟨#[]⟩, .string ⟨#[]⟩, .string ⟨#[]⟩, .int .i64 0, .slice none 0 0, .int .u64 0, .int .u64 0, .string ⟨#[]⟩, .string ⟨#[]⟩, .string ⟨#[]⟩, .int .i64 0, .string ⟨#[]⟩, .int .u64 0, .int .u64 0, .bool false, .int .u64 0] 55) (.cells #[.int .i64 kd, .string ⟨#[]⟩, .string ⟨#[]⟩, .int .u64 0, .int .u64 0, .string ⟨#[]⟩, .string ⟨#[]⟩, .string ⟨#[]⟩, .int .i64 0, .slice none 0 0, .int .u64 0, .int .u64 0, .string ⟨#[]⟩, .string ⟨#[]⟩, .string ⟨#[]⟩, .int .i64 0, .string ⟨#[]⟩, .int .u64 0, .int .u64 0, .bool true, .int .u64 wt] 55)
  obtain ⟨w3, Hw3⟩ : ∃ w3, Hid (w3 = ((w.alloc (.cells #[.int .i64 kd, .string nn, .string na, .int .u64 n3, .int .u64 n4, .string sn, .string si, .string sm, .int .i64 sp, .slice ta tl tc, .int .u64 s6, .int .u64 s7, .string cn, .string ci, .string cs, .int .i64 ct, .string ce, .int .u64 c6, .int .u64 c7, .bool true, .int .u64 wt] 55)).alloc (.cells #[.int .i64 0, .string ⟨#[]⟩, .string ⟨#[]⟩, .int .u64 0, .int .u64 0, .string ⟨#[]⟩, .string ⟨#[]⟩, .string ⟨#[]⟩, .int .i64 0, .slice none 0 0, .int .u64 0, .int .u64 0, .string ⟨#[]⟩, .string ⟨#[]⟩, .string ⟨#[]⟩, .int .i64 0, .string ⟨#[]⟩, .int .u64 0, .int .u64 0, .bool false, .int .u64 0] 55)).alloc (.cells #[.int .i64 kd, .string ⟨#[]⟩, .string ⟨#[]⟩, .int .u64 0, .int .u64 0, .string ⟨#[]⟩, .string ⟨#[]⟩, .string ⟨#[]⟩, .int .i64 0, .slice none 0 0, .int .u64 0, .int .u64 0, .string ⟨#[]⟩, .string ⟨#[]⟩, .string ⟨#[]⟩, .int .i64 0, .string ⟨#[]⟩, .int .u64 0, .int .u64 0, .bool true, .int .u64 wt] 55)) := ⟨_, rfl⟩
  have HA3 : Hid (Blk w3 w.heap.size #[.int .i64 kd, .string nn, .string na, .int .u64 n3, .int .u64 n4, .string sn, .string si, .string sm, .int .i64 sp, .slice ta tl tc, .int .u64 s6, .int .u64 s7, .string cn, .string ci, .string cs, .int .i64 ct, .string ce, .int .u64 c6, .int .u64 c7, .bool true, .int .u64 wt] 55) := by rw [Hw3.out]; exact b1
  have HR3 : Hid (Blk w3 (w.heap.size + 1) #[.int .i64 0, .string ⟨#[]⟩, .string ⟨#[]⟩, .int .u64 0, .int .u64 0, .string ⟨#[]⟩, .string ⟨#[]⟩, .string ⟨#[]⟩, .int .i64 0, .slice none 0 0, .int .u64 0, .int .u64 0, .string ⟨#[]⟩, .string ⟨#[]⟩, .string ⟨#[]⟩, .int .i64 0, .string ⟨#[]⟩, .int .u64 0, .int .u64 0, .bool false, .int .u64 0] 55) := by rw [Hw3.out]; exact b2
  have HF3 : Hid (Blk w3 (w.heap.size + 1 + 1) #[.int .i64 kd, .string ⟨#[]⟩, .string ⟨#[]⟩, .int .u64 0, .int .u64 0, .string ⟨#[]⟩, .string ⟨#[]⟩, .string ⟨#[]⟩, .int .i64 0, .slice none 0 0, .int .u64 0, .int .u64 0, .string ⟨#[]⟩, .string ⟨#[]⟩, .string ⟨#[]⟩, .int .i64 0, .string ⟨#[]⟩, .int .u64 0, .int .u64 0, .bool true, .int .u64 wt] 55) := by rw [Hw3.out]; exact b3
  have HB3 : Hid (Below w.heap.size w w3) := by rw [Hw3.out]; exact b4
  clear b1 b2 b3 b4
  go_enter Tryz.func52, Tryz.ntmps52
  have HZz : Hid (OppA w oppZ 96 (.returned (.tuple #[.agg #[.int .i64 0, .string ⟨#[]⟩, .string ⟨#[]⟩, .int .u64 0, .int .u64 0, .string ⟨#[]⟩, .string ⟨#[]⟩, .string ⟨#[]⟩, .int .i64 0, .slice none 0 0, .int .u64 0, .int .u64 0, .string ⟨#[]⟩, .string ⟨#[]⟩, .string ⟨#[]⟩, .int .i64 0, .string ⟨#[]⟩, .int .u64 0, .int .u64 0, .bool false, .int .u64 0], .int .i64 96])) (w3.setRow (w.heap.size + 1) #[.int .i64 0, .string ⟨#[]⟩, .string ⟨#[]⟩, .int .u64 0, .int .u64 0, .string ⟨#[]⟩, .string ⟨#[]⟩, .string ⟨#[]⟩, .int .i64 0, .slice none 0 0, .int .u64 0, .int .u64 0, .string ⟨#[]⟩, .string ⟨#[]⟩, .string ⟨#[]⟩, .int .i64 0, .string ⟨#[]⟩, .int .u64 0, .int .u64 0, .bool false, .int .u64 0])) := ⟨.slice none 0 0, rfl, World.ownsRow_nil _ _ _ _, below_setRow HB3.out (by omega) _⟩
  have HLd : Hid ((loadVar 55 ⟨(w.heap.size + 1), 0, none⟩).run Tryz.prog (w3.setRow (w.heap.size + 1) #[.int .i64 0, .string ⟨#[]⟩, .string ⟨#[]⟩, .int .u64 0, .int .u64 0, .string ⟨#[]⟩, .string ⟨#[]⟩, .string ⟨#[]⟩, .int .i64 0, .slice none 0 0, .int .u64 0, .int .u64 0, .string ⟨#[]⟩, .string ⟨#[]⟩, .string ⟨#[]⟩, .int .i64 0, .string ⟨#[]⟩, .int .u64 0, .int .u64 0, .bool false, .int .u64 0]) = .ok (.agg #[.int .i64 0, .string ⟨#[]⟩, .string ⟨#[]⟩, .int .u64 0, .int .u64 0, .string ⟨#[]⟩, .string ⟨#[]⟩, .string ⟨#[]⟩, .int .i64 0, .slice none 0 0, .int .u64 0, .int .u64 0, .string ⟨#[]⟩, .string ⟨#[]⟩, .string ⟨#[]⟩, .int .i64 0, .string ⟨#[]⟩, .int .u64 0, .int .u64 0, .bool false, .int .u64 0]) (w3.setRow (w.heap.size + 1) #[.int .i64 0, .string ⟨#[]⟩, .string ⟨#[]⟩, .int .u64 0, .int .u64 0, .string ⟨#[]⟩, .string ⟨#[]⟩, .string ⟨#[]⟩, .int .i64 0, .slice none 0 0, .int .u64 0, .int .u64 0, .string ⟨#[]⟩, .string ⟨#[]⟩, .string ⟨#[]⟩, .int .i64 0, .string ⟨#[]⟩, .int .u64 0, .int .u64 0, .bool false, .int .u64 0])) := load_op (blk_setRow HR3.out _) rfl
  iterate 36 go_step
  refine wp_store_op rfl ?_ rfl rfl rfl rfl (by simp [Value.oneCell']) ?_
  · simp only [size_new]
  go_upto_region 20 with fail
  rw [← Hw3.out]
  iterate 8 go_step
  refine wp_put_op rfl HR3.out rfl rfl rfl rfl (by simp [Value.oneCell']) ?_
  go_wp2
  exact ret_box (g := (w.heap.size + 1)) (w := (w3.setRow (w.heap.size + 1) #[.int .i64 0, .string ⟨#[]⟩, .string ⟨#[]⟩, .int .u64 0, .int .u64 0, .string ⟨#[]⟩, .string ⟨#[]⟩, .string ⟨#[]⟩, .int .i64 0, .slice none 0 0, .int .u64 0, .int .u64 0, .string ⟨#[]⟩, .string ⟨#[]⟩, .string ⟨#[]⟩, .int .i64 0, .string ⟨#[]⟩, .int .u64 0, .int .u64 0, .bool false, .int .u64 0])) (e := .int .i64 96) rfl rfl rfl rfl HLd.out HZz.out
end Go.Proofs.YtmkohdepgfahnaaGreatDoor
