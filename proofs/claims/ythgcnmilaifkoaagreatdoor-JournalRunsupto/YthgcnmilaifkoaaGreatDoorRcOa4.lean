import Derived.Test.YthgcnmilaifkoaaGreatDoorRcCopyS
/- Layer 9 (records): FixOp, a check. -/
namespace Go.Proofs.YthgcnmilaifkoaaGreatDoor
open Go.RowKit
set_option linter.unusedVariables false

set_option maxRecDepth 100000 in
set_option maxHeartbeats 8000000 in
theorem fixOpa3_false (o : Opp) (hk : o.kind = 3) (hcas : o.cas = false) (ta : Option Addr) (tc : Nat) (w : World) (hs : o.small) (hc : CellsAt w ta (o.svc.tags.map Value.string)) (hv : Vs w) :
  Calls Tryz.prog 52 #[.agg (o.v (.slice ta o.svc.tags.length tc))] w fun e w' => OppA w (oppF o) (oppE o) e w' := by
 obtain ⟨hn1, hn2, hsv, hck⟩ := hs
 have HSV : Hid (Sp.small o.svc) := hsv
 have HCK : Hid (Ck.small o.chk) := hck
 have HC : Hid (CellsAt w ta (o.svc.tags.map Value.string)) := hc
 have HV : Hid (Vs w) := hv
 clear hsv hck hc hv
 obtain ⟨ne, Hne⟩ : ∃ ne, Hid (ne = chkE o.chk) := ⟨_, rfl⟩
 have HE : Hid (oppE o = ne) := by rw [Hid, Hne.out]; unfold oppE; rw [if_neg (by rw [hk]; decide), if_neg (by rw [hk]; decide), if_pos hk]
 obtain ⟨fx, Hfx⟩ : ∃ fx, Hid (fx = chkF o.chk) := ⟨_, rfl⟩
 have HFy : Hid (ne = 0 → oppF o = ⟨3, nodeZ, svcZ, fx, false, 0⟩) := fun h => by unfold oppF; rw [if_pos (HE.out.trans h)]; unfold oppN wantF; rw [if_neg (by rw [hk]; decide), if_neg (by rw [hk]; decide), if_pos hk, hk, hcas, Hfx.out]; rfl
 have HFn : Hid (¬ ne = 0 → oppF o = oppZ) := fun h => by unfold oppF; rw [if_neg (fun e => h (HE.out.symm.trans e))]
 have HCl : Hid (∀ w, Calls Tryz.prog 68 #[.agg o.chk.v] w fun e w' => e = .returned (.tuple #[.agg fx.v, .int .i64 ne]) ∧ Below w.heap.size w w') := fun w => by rw [Hfx.out, Hne.out]; exact fixCheck_calls o.chk w HCK.out
 rw [HE.out]
 clear Hne HE Hfx HSV HCK HC
 obtain ⟨kd, ⟨nn, na, n3, n4⟩, ⟨sn, si, sm, sp, tg, s6, s7⟩, ⟨cn, ci, cs, ct, ce, c6, c7⟩, cas, wt⟩ := o
 obtain ⟨g1, g2, g3, g4, g5, g6, g7⟩ := fx
 simp only [Opp.v, Ck.v] at *
 subst hk hcas
 generalize tg.length = tl at *
 obtain ⟨b1, b2, b3, b4⟩ := three_new w (.cells (o21 3 nn na n3 n4 sn si sm sp (.slice ta tl tc) s6 s7 cn ci cs ct ce c6 c7 false wt) 47) (.cells z21 47) (.cells (o21 3 ⟨#[]⟩ ⟨#[]⟩ 0 0 ⟨#[]⟩ ⟨#[]⟩ ⟨#[]⟩ 0 (.slice none 0 0) 0 0 ⟨#[]⟩ ⟨#[]⟩ ⟨#[]⟩ 0 ⟨#[]⟩ 0 0 false 0) 47)
 obtain ⟨w3, Hw3⟩ : ∃ w3, Hid (w3 = ((w.alloc (.cells (o21 3 nn na n3 n4 sn si sm sp (.slice ta tl tc) s6 s7 cn ci cs ct ce c6 c7 false wt) 47)).alloc (.cells z21 47)).alloc (.cells (o21 3 ⟨#[]⟩ ⟨#[]⟩ 0 0 ⟨#[]⟩ ⟨#[]⟩ ⟨#[]⟩ 0 (.slice none 0 0) 0 0 ⟨#[]⟩ ⟨#[]⟩ ⟨#[]⟩ 0 ⟨#[]⟩ 0 0 false 0) 47)) := ⟨_, rfl⟩
 have HA3 : Hid (Blk w3 w.heap.size (o21 3 nn na n3 n4 sn si sm sp (.slice ta tl tc) s6 s7 cn ci cs ct ce c6 c7 false wt) 47) := by rw [Hw3.out]; exact b1
 have HR3 : Hid (Blk w3 (w.heap.size + 1) z21 47) := by rw [Hw3.out]; exact b2
 have HF3 : Hid (Blk w3 (w.heap.size + 1 + 1) (o21 3 ⟨#[]⟩ ⟨#[]⟩ 0 0 ⟨#[]⟩ ⟨#[]⟩ ⟨#[]⟩ 0 (.slice none 0 0) 0 0 ⟨#[]⟩ ⟨#[]⟩ ⟨#[]⟩ 0 ⟨#[]⟩ 0 0 false 0) 47) := by rw [Hw3.out]; exact b3
 have HB3 : Hid (Below w.heap.size w w3) := by rw [Hw3.out]; exact b4
 clear b1 b2 b3 b4
 go_enter Tryz.func52, Tryz.ntmps52
 iterate 36 go_step
 refine wp_store_op rfl ?_ rfl rfl rfl rfl (by simp [Value.oneCell']) ?_
 ·simp only [size_new]
 go_upto_region 12 with fail
 rw [← Hw3.out]
 clear Hw3
 iterate 5 go_step
 refine wp_get_part (n := 7) (l := [.string cn, .string ci, .string cs, .int .i64 ct, .string ce, .int .u64 c6, .int .u64 c7]) rfl HA3.out rfl rfl Tryz.underlying45 rfl size_chk ?_
 go_wp2_with fail
 refine (HCl.out w3).mono ?_
 rintro e w4 ⟨rfl, hb4⟩
 have HR4 : Hid (Blk w4 (w.heap.size + 1) z21 47) := HR3.out.below hb4
 have HF4 : Hid (Blk w4 (w.heap.size + 1 + 1) (o21 3 ⟨#[]⟩ ⟨#[]⟩ 0 0 ⟨#[]⟩ ⟨#[]⟩ ⟨#[]⟩ 0 (.slice none 0 0) 0 0 ⟨#[]⟩ ⟨#[]⟩ ⟨#[]⟩ 0 ⟨#[]⟩ 0 0 false 0) 47) := HF3.out.below hb4
 have HB4 : Hid (Below w.heap.size w w4) := HB3.out.trans (hb4.mono HB3.out.size)
 have HR5 : Hid (Blk (putC w4 (w.heap.size + 1 + 1) 12 [.string g1, .string g2, .string g3, .int .i64 g4, .string g5, .int .u64 g6, .int .u64 g7]) (w.heap.size + 1) z21 47) := putC_other (by omega) [.string g1, .string g2, .string g3, .int .i64 g4, .string g5, .int .u64 g6, .int .u64 g7] w4 12 HR4.out
 have HF5 : Hid (Blk (putC w4 (w.heap.size + 1 + 1) 12 [.string g1, .string g2, .string g3, .int .i64 g4, .string g5, .int .u64 g6, .int .u64 g7]) (w.heap.size + 1 + 1) (o21 3 ⟨#[]⟩ ⟨#[]⟩ 0 0 ⟨#[]⟩ ⟨#[]⟩ ⟨#[]⟩ 0 (.slice none 0 0) 0 0 g1 g2 g3 g4 g5 g6 g7 false 0) 47) := putC_mid [.string g1, .string g2, .string g3, .int .i64 g4, .string g5, .int .u64 g6, .int .u64 g7] w4 12 _ HF4.out (by simp)
 have HB5 : Hid (Below w.heap.size w (putC w4 (w.heap.size + 1 + 1) 12 [.string g1, .string g2, .string g3, .int .i64 g4, .string g5, .int .u64 g6, .int .u64 g7])) := putC_below [.string g1, .string g2, .string g3, .int .i64 g4, .string g5, .int .u64 g6, .int .u64 g7] w4 12 HB4.out (by omega)
 clear hb4 HA3 HR3 HF3 HB3 HCl HR4 HB4
 dsimp only
 iterate 14 go_step
 refine wp_put_part (l := [.string g1, .string g2, .string g3, .int .i64 g4, .string g5, .int .u64 g6, .int .u64 g7]) rfl HF4.out rfl rfl (by simp) size_chk (by simp [Value.oneCell']) ?_
 obtain ⟨w5, Hw5⟩ : ∃ w5, Hid (w5 = (putC w4 (w.heap.size + 1 + 1) 12 [.string g1, .string g2, .string g3, .int .i64 g4, .string g5, .int .u64 g6, .int .u64 g7])) := ⟨_, rfl⟩
 rw [← Hw5.out] at HR5 HF5 HB5 ⊢
 clear Hw5
 clear HF4
 by_cases h0 : ne = 0
 ·have HQ : Hid (_ = (⟨3, nodeZ, svcZ, ⟨g1, g2, g3, g4, g5, g6, g7⟩, false, 0⟩ : Opp)) := HFy.out h0
  have q : (ne != 0) = false := by simpa using h0
  have H0 : Hid (0 = ne) := h0.symm
  have HF : Hid (OppA w ⟨3, nodeZ, svcZ, ⟨g1, g2, g3, g4, g5, g6, g7⟩, false, 0⟩ ne (.returned (.tuple #[.agg (o21 3 ⟨#[]⟩ ⟨#[]⟩ 0 0 ⟨#[]⟩ ⟨#[]⟩ ⟨#[]⟩ 0 (.slice none 0 0) 0 0 g1 g2 g3 g4 g5 g6 g7 false 0), .int .i64 0])) (w5.setRow (w.heap.size + 1) (o21 3 ⟨#[]⟩ ⟨#[]⟩ 0 0 ⟨#[]⟩ ⟨#[]⟩ ⟨#[]⟩ 0 (.slice none 0 0) 0 0 g1 g2 g3 g4 g5 g6 g7 false 0))) := ⟨.slice none 0 0, by rw [← H0.out]; rfl, World.ownsRow_nil _ _ _ _, below_setRow HB5.out (by omega) _⟩
  have HLd : Hid ((loadVar 47 ⟨(w.heap.size + 1), 0, none⟩).run Tryz.prog (w5.setRow (w.heap.size + 1) (o21 3 ⟨#[]⟩ ⟨#[]⟩ 0 0 ⟨#[]⟩ ⟨#[]⟩ ⟨#[]⟩ 0 (.slice none 0 0) 0 0 g1 g2 g3 g4 g5 g6 g7 false 0)) = .ok (.agg (o21 3 ⟨#[]⟩ ⟨#[]⟩ 0 0 ⟨#[]⟩ ⟨#[]⟩ ⟨#[]⟩ 0 (.slice none 0 0) 0 0 g1 g2 g3 g4 g5 g6 g7 false 0)) (w5.setRow (w.heap.size + 1) (o21 3 ⟨#[]⟩ ⟨#[]⟩ 0 0 ⟨#[]⟩ ⟨#[]⟩ ⟨#[]⟩ 0 (.slice none 0 0) 0 0 g1 g2 g3 g4 g5 g6 g7 false 0))) := load_op (blk_setRow HR5.out _) rfl
  clear h0 HFy HFn H0 HB5
  go_upto_region 21 with fail
  iterate 2 go_step
  refine wp_get_op rfl HF5.out rfl rfl ?_
  iterate 2 go_step
  refine wp_put_op rfl HR5.out rfl rfl rfl rfl (by simp [Value.oneCell']) ?_
  go_wp2
  rw [HQ.out]
  exact ret_box (g := (w.heap.size + 1)) (w := (w5.setRow (w.heap.size + 1) (o21 3 ⟨#[]⟩ ⟨#[]⟩ 0 0 ⟨#[]⟩ ⟨#[]⟩ ⟨#[]⟩ 0 (.slice none 0 0) 0 0 g1 g2 g3 g4 g5 g6 g7 false 0))) (e := .int .i64 0) rfl rfl rfl rfl HLd.out HF.out
 ·have HQ : Hid (_ = oppZ) := HFn.out h0
  have q : (ne != 0) = true := by simpa using h0
  have HF : Hid (OppA w oppZ ne (.returned (.tuple #[.agg z21, .int .i64 ne])) (w5.setRow (w.heap.size + 1) z21)) := ⟨.slice none 0 0, rfl, World.ownsRow_nil _ _ _ _, below_setRow HB5.out (by omega) _⟩
  have HLd : Hid ((loadVar 47 ⟨(w.heap.size + 1), 0, none⟩).run Tryz.prog (w5.setRow (w.heap.size + 1) z21) = .ok (.agg z21) (w5.setRow (w.heap.size + 1) z21)) := load_op (blk_setRow HR5.out _) rfl
  clear HFy HFn HB5
  go_upto_region 20 with fail
  iterate 8 go_step
  refine wp_put_op rfl HR5.out rfl rfl rfl rfl (by simp [Value.oneCell']) ?_
  go_wp2
  rw [HQ.out]
  exact ret_box (g := (w.heap.size + 1)) (w := (w5.setRow (w.heap.size + 1) z21)) (e := .int .i64 ne) rfl rfl rfl rfl HLd.out HF.out
set_option maxRecDepth 100000 in
set_option maxHeartbeats 8000000 in
theorem fixOpa3_true (o : Opp) (hk : o.kind = 3) (hcas : o.cas = true) (ta : Option Addr) (tc : Nat) (w : World) (hs : o.small) (hc : CellsAt w ta (o.svc.tags.map Value.string)) (hv : Vs w) :
  Calls Tryz.prog 52 #[.agg (o.v (.slice ta o.svc.tags.length tc))] w fun e w' => OppA w (oppF o) (oppE o) e w' := by
 obtain ⟨hn1, hn2, hsv, hck⟩ := hs
 have HSV : Hid (Sp.small o.svc) := hsv
 have HCK : Hid (Ck.small o.chk) := hck
 have HC : Hid (CellsAt w ta (o.svc.tags.map Value.string)) := hc
 have HV : Hid (Vs w) := hv
 clear hsv hck hc hv
 obtain ⟨ne, Hne⟩ : ∃ ne, Hid (ne = chkE o.chk) := ⟨_, rfl⟩
 have HE : Hid (oppE o = ne) := by rw [Hid, Hne.out]; unfold oppE; rw [if_neg (by rw [hk]; decide), if_neg (by rw [hk]; decide), if_pos hk]
 obtain ⟨fx, Hfx⟩ : ∃ fx, Hid (fx = chkF o.chk) := ⟨_, rfl⟩
 have HFy : Hid (ne = 0 → oppF o = ⟨3, nodeZ, svcZ, fx, true, o.want⟩) := fun h => by unfold oppF; rw [if_pos (HE.out.trans h)]; unfold oppN wantF; rw [if_neg (by rw [hk]; decide), if_neg (by rw [hk]; decide), if_pos hk, hk, hcas, Hfx.out]; rfl
 have HFn : Hid (¬ ne = 0 → oppF o = oppZ) := fun h => by unfold oppF; rw [if_neg (fun e => h (HE.out.symm.trans e))]
 have HCl : Hid (∀ w, Calls Tryz.prog 68 #[.agg o.chk.v] w fun e w' => e = .returned (.tuple #[.agg fx.v, .int .i64 ne]) ∧ Below w.heap.size w w') := fun w => by rw [Hfx.out, Hne.out]; exact fixCheck_calls o.chk w HCK.out
 rw [HE.out]
 clear Hne HE Hfx HSV HCK HC
 obtain ⟨kd, ⟨nn, na, n3, n4⟩, ⟨sn, si, sm, sp, tg, s6, s7⟩, ⟨cn, ci, cs, ct, ce, c6, c7⟩, cas, wt⟩ := o
 obtain ⟨g1, g2, g3, g4, g5, g6, g7⟩ := fx
 simp only [Opp.v, Ck.v] at *
 subst hk hcas
 generalize tg.length = tl at *
 obtain ⟨b1, b2, b3, b4⟩ := three_new w (.cells (o21 3 nn na n3 n4 sn si sm sp (.slice ta tl tc) s6 s7 cn ci cs ct ce c6 c7 true wt) 47) (.cells z21 47) (.cells (o21 3 ⟨#[]⟩ ⟨#[]⟩ 0 0 ⟨#[]⟩ ⟨#[]⟩ ⟨#[]⟩ 0 (.slice none 0 0) 0 0 ⟨#[]⟩ ⟨#[]⟩ ⟨#[]⟩ 0 ⟨#[]⟩ 0 0 true wt) 47)
 obtain ⟨w3, Hw3⟩ : ∃ w3, Hid (w3 = ((w.alloc (.cells (o21 3 nn na n3 n4 sn si sm sp (.slice ta tl tc) s6 s7 cn ci cs ct ce c6 c7 true wt) 47)).alloc (.cells z21 47)).alloc (.cells (o21 3 ⟨#[]⟩ ⟨#[]⟩ 0 0 ⟨#[]⟩ ⟨#[]⟩ ⟨#[]⟩ 0 (.slice none 0 0) 0 0 ⟨#[]⟩ ⟨#[]⟩ ⟨#[]⟩ 0 ⟨#[]⟩ 0 0 true wt) 47)) := ⟨_, rfl⟩
 have HA3 : Hid (Blk w3 w.heap.size (o21 3 nn na n3 n4 sn si sm sp (.slice ta tl tc) s6 s7 cn ci cs ct ce c6 c7 true wt) 47) := by rw [Hw3.out]; exact b1
 have HR3 : Hid (Blk w3 (w.heap.size + 1) z21 47) := by rw [Hw3.out]; exact b2
 have HF3 : Hid (Blk w3 (w.heap.size + 1 + 1) (o21 3 ⟨#[]⟩ ⟨#[]⟩ 0 0 ⟨#[]⟩ ⟨#[]⟩ ⟨#[]⟩ 0 (.slice none 0 0) 0 0 ⟨#[]⟩ ⟨#[]⟩ ⟨#[]⟩ 0 ⟨#[]⟩ 0 0 true wt) 47) := by rw [Hw3.out]; exact b3
 have HB3 : Hid (Below w.heap.size w w3) := by rw [Hw3.out]; exact b4
 clear b1 b2 b3 b4
 go_enter Tryz.func52, Tryz.ntmps52
 iterate 36 go_step
 refine wp_store_op rfl ?_ rfl rfl rfl rfl (by simp [Value.oneCell']) ?_
 ·simp only [size_new]
 go_upto_region 12 with fail
 rw [← Hw3.out]
 clear Hw3
 iterate 5 go_step
 refine wp_get_part (n := 7) (l := [.string cn, .string ci, .string cs, .int .i64 ct, .string ce, .int .u64 c6, .int .u64 c7]) rfl HA3.out rfl rfl Tryz.underlying45 rfl size_chk ?_
 go_wp2_with fail
 refine (HCl.out w3).mono ?_
 rintro e w4 ⟨rfl, hb4⟩
 have HR4 : Hid (Blk w4 (w.heap.size + 1) z21 47) := HR3.out.below hb4
 have HF4 : Hid (Blk w4 (w.heap.size + 1 + 1) (o21 3 ⟨#[]⟩ ⟨#[]⟩ 0 0 ⟨#[]⟩ ⟨#[]⟩ ⟨#[]⟩ 0 (.slice none 0 0) 0 0 ⟨#[]⟩ ⟨#[]⟩ ⟨#[]⟩ 0 ⟨#[]⟩ 0 0 true wt) 47) := HF3.out.below hb4
 have HB4 : Hid (Below w.heap.size w w4) := HB3.out.trans (hb4.mono HB3.out.size)
 have HR5 : Hid (Blk (putC w4 (w.heap.size + 1 + 1) 12 [.string g1, .string g2, .string g3, .int .i64 g4, .string g5, .int .u64 g6, .int .u64 g7]) (w.heap.size + 1) z21 47) := putC_other (by omega) [.string g1, .string g2, .string g3, .int .i64 g4, .string g5, .int .u64 g6, .int .u64 g7] w4 12 HR4.out
 have HF5 : Hid (Blk (putC w4 (w.heap.size + 1 + 1) 12 [.string g1, .string g2, .string g3, .int .i64 g4, .string g5, .int .u64 g6, .int .u64 g7]) (w.heap.size + 1 + 1) (o21 3 ⟨#[]⟩ ⟨#[]⟩ 0 0 ⟨#[]⟩ ⟨#[]⟩ ⟨#[]⟩ 0 (.slice none 0 0) 0 0 g1 g2 g3 g4 g5 g6 g7 true wt) 47) := putC_mid [.string g1, .string g2, .string g3, .int .i64 g4, .string g5, .int .u64 g6, .int .u64 g7] w4 12 _ HF4.out (by simp)
 have HB5 : Hid (Below w.heap.size w (putC w4 (w.heap.size + 1 + 1) 12 [.string g1, .string g2, .string g3, .int .i64 g4, .string g5, .int .u64 g6, .int .u64 g7])) := putC_below [.string g1, .string g2, .string g3, .int .i64 g4, .string g5, .int .u64 g6, .int .u64 g7] w4 12 HB4.out (by omega)
 clear hb4 HA3 HR3 HF3 HB3 HCl HR4 HB4
 dsimp only
 iterate 14 go_step
 refine wp_put_part (l := [.string g1, .string g2, .string g3, .int .i64 g4, .string g5, .int .u64 g6, .int .u64 g7]) rfl HF4.out rfl rfl (by simp) size_chk (by simp [Value.oneCell']) ?_
 obtain ⟨w5, Hw5⟩ : ∃ w5, Hid (w5 = (putC w4 (w.heap.size + 1 + 1) 12 [.string g1, .string g2, .string g3, .int .i64 g4, .string g5, .int .u64 g6, .int .u64 g7])) := ⟨_, rfl⟩
 rw [← Hw5.out] at HR5 HF5 HB5 ⊢
 clear Hw5
 clear HF4
 by_cases h0 : ne = 0
 ·have HQ : Hid (_ = (⟨3, nodeZ, svcZ, ⟨g1, g2, g3, g4, g5, g6, g7⟩, true, wt⟩ : Opp)) := HFy.out h0
  have q : (ne != 0) = false := by simpa using h0
  have H0 : Hid (0 = ne) := h0.symm
  have HF : Hid (OppA w ⟨3, nodeZ, svcZ, ⟨g1, g2, g3, g4, g5, g6, g7⟩, true, wt⟩ ne (.returned (.tuple #[.agg (o21 3 ⟨#[]⟩ ⟨#[]⟩ 0 0 ⟨#[]⟩ ⟨#[]⟩ ⟨#[]⟩ 0 (.slice none 0 0) 0 0 g1 g2 g3 g4 g5 g6 g7 true wt), .int .i64 0])) (w5.setRow (w.heap.size + 1) (o21 3 ⟨#[]⟩ ⟨#[]⟩ 0 0 ⟨#[]⟩ ⟨#[]⟩ ⟨#[]⟩ 0 (.slice none 0 0) 0 0 g1 g2 g3 g4 g5 g6 g7 true wt))) := ⟨.slice none 0 0, by rw [← H0.out]; rfl, World.ownsRow_nil _ _ _ _, below_setRow HB5.out (by omega) _⟩
  have HLd : Hid ((loadVar 47 ⟨(w.heap.size + 1), 0, none⟩).run Tryz.prog (w5.setRow (w.heap.size + 1) (o21 3 ⟨#[]⟩ ⟨#[]⟩ 0 0 ⟨#[]⟩ ⟨#[]⟩ ⟨#[]⟩ 0 (.slice none 0 0) 0 0 g1 g2 g3 g4 g5 g6 g7 true wt)) = .ok (.agg (o21 3 ⟨#[]⟩ ⟨#[]⟩ 0 0 ⟨#[]⟩ ⟨#[]⟩ ⟨#[]⟩ 0 (.slice none 0 0) 0 0 g1 g2 g3 g4 g5 g6 g7 true wt)) (w5.setRow (w.heap.size + 1) (o21 3 ⟨#[]⟩ ⟨#[]⟩ 0 0 ⟨#[]⟩ ⟨#[]⟩ ⟨#[]⟩ 0 (.slice none 0 0) 0 0 g1 g2 g3 g4 g5 g6 g7 true wt))) := load_op (blk_setRow HR5.out _) rfl
  clear h0 HFy HFn H0 HB5
  go_upto_region 21 with fail
  iterate 2 go_step
  refine wp_get_op rfl HF5.out rfl rfl ?_
  iterate 2 go_step
  refine wp_put_op rfl HR5.out rfl rfl rfl rfl (by simp [Value.oneCell']) ?_
  go_wp2
  rw [HQ.out]
  exact ret_box (g := (w.heap.size + 1)) (w := (w5.setRow (w.heap.size + 1) (o21 3 ⟨#[]⟩ ⟨#[]⟩ 0 0 ⟨#[]⟩ ⟨#[]⟩ ⟨#[]⟩ 0 (.slice none 0 0) 0 0 g1 g2 g3 g4 g5 g6 g7 true wt))) (e := .int .i64 0) rfl rfl rfl rfl HLd.out HF.out
 ·have HQ : Hid (_ = oppZ) := HFn.out h0
  have q : (ne != 0) = true := by simpa using h0
  have HF : Hid (OppA w oppZ ne (.returned (.tuple #[.agg z21, .int .i64 ne])) (w5.setRow (w.heap.size + 1) z21)) := ⟨.slice none 0 0, rfl, World.ownsRow_nil _ _ _ _, below_setRow HB5.out (by omega) _⟩
  have HLd : Hid ((loadVar 47 ⟨(w.heap.size + 1), 0, none⟩).run Tryz.prog (w5.setRow (w.heap.size + 1) z21) = .ok (.agg z21) (w5.setRow (w.heap.size + 1) z21)) := load_op (blk_setRow HR5.out _) rfl
  clear HFy HFn HB5
  go_upto_region 20 with fail
  iterate 8 go_step
  refine wp_put_op rfl HR5.out rfl rfl rfl rfl (by simp [Value.oneCell']) ?_
  go_wp2
  rw [HQ.out]
  exact ret_box (g := (w.heap.size + 1)) (w := (w5.setRow (w.heap.size + 1) z21)) (e := .int .i64 ne) rfl rfl rfl rfl HLd.out HF.out
end Go.Proofs.YthgcnmilaifkoaaGreatDoor

/- Layer 9 (records): FixOp, a node dropped. -/
namespace Go.Proofs.YthgcnmilaifkoaaGreatDoor
open Go.RowKit
set_option linter.unusedVariables false

set_option maxRecDepth 100000 in
set_option maxHeartbeats 8000000 in
theorem fixOpa4_false (o : Opp) (hk : o.kind = 4) (hcas : o.cas = false) (ta : Option Addr) (tc : Nat) (w : World) (hs : o.small) (hc : CellsAt w ta (o.svc.tags.map Value.string)) (hv : Vs w) :
  Calls Tryz.prog 52 #[.agg (o.v (.slice ta o.svc.tags.length tc))] w fun e w' => OppA w (oppF o) (oppE o) e w' := by
 obtain ⟨hn1, hn2, hsv, hck⟩ := hs
 have HSV : Hid (Sp.small o.svc) := hsv
 have HCK : Hid (Ck.small o.chk) := hck
 have HC : Hid (CellsAt w ta (o.svc.tags.map Value.string)) := hc
 have HV : Hid (Vs w) := hv
 clear hsv hck hc hv
 obtain ⟨ne, Hne⟩ : ∃ ne, Hid (ne = labE o.node.name) := ⟨_, rfl⟩
 have HE : Hid (oppE o = ne) := by rw [Hid, Hne.out]; unfold oppE; rw [if_neg (by rw [hk]; decide), if_neg (by rw [hk]; decide), if_neg (by rw [hk]; decide), if_pos hk]
 have HFy : Hid (ne = 0 → oppF o = ⟨4, ⟨labT o.node.name, ⟨#[]⟩, 0, 0⟩, svcZ, chkZ, false, 0⟩) := fun h => by unfold oppF; rw [if_pos (HE.out.trans h)]; unfold oppN wantF; rw [if_neg (by rw [hk]; decide), if_neg (by rw [hk]; decide), if_neg (by rw [hk]; decide), if_pos hk, hk, hcas]; rfl
 have HFn : Hid (¬ ne = 0 → oppF o = oppZ) := fun h => by unfold oppF; rw [if_neg (fun e => h (HE.out.symm.trans e))]
 obtain ⟨g1, Hg1⟩ : ∃ x, Hid (x = labT o.node.name) := ⟨_, rfl⟩
 have HCl : Hid (∀ w, Calls Tryz.prog 69 #[.string o.node.name] w fun e w' => e = .returned (.tuple #[.string g1, .int .i64 ne]) ∧ Below w.heap.size w w') := fun w => by rw [Hg1.out, Hne.out]; exact label_calls o.node.name w hn1
 rw [← Hg1.out] at HFy
 rw [HE.out]
 clear Hne HE Hg1 HSV HCK HC
 obtain ⟨kd, ⟨nn, na, n3, n4⟩, ⟨sn, si, sm, sp, tg, s6, s7⟩, ⟨cn, ci, cs, ct, ce, c6, c7⟩, cas, wt⟩ := o
 simp only [Opp.v] at *
 subst hk hcas
 generalize tg.length = tl at *
 obtain ⟨b1, b2, b3, b4⟩ := three_new w (.cells (o21 4 nn na n3 n4 sn si sm sp (.slice ta tl tc) s6 s7 cn ci cs ct ce c6 c7 false wt) 47) (.cells z21 47) (.cells (o21 4 ⟨#[]⟩ ⟨#[]⟩ 0 0 ⟨#[]⟩ ⟨#[]⟩ ⟨#[]⟩ 0 (.slice none 0 0) 0 0 ⟨#[]⟩ ⟨#[]⟩ ⟨#[]⟩ 0 ⟨#[]⟩ 0 0 false 0) 47)
 obtain ⟨w3, Hw3⟩ : ∃ w3, Hid (w3 = ((w.alloc (.cells (o21 4 nn na n3 n4 sn si sm sp (.slice ta tl tc) s6 s7 cn ci cs ct ce c6 c7 false wt) 47)).alloc (.cells z21 47)).alloc (.cells (o21 4 ⟨#[]⟩ ⟨#[]⟩ 0 0 ⟨#[]⟩ ⟨#[]⟩ ⟨#[]⟩ 0 (.slice none 0 0) 0 0 ⟨#[]⟩ ⟨#[]⟩ ⟨#[]⟩ 0 ⟨#[]⟩ 0 0 false 0) 47)) := ⟨_, rfl⟩
 have HA3 : Hid (Blk w3 w.heap.size (o21 4 nn na n3 n4 sn si sm sp (.slice ta tl tc) s6 s7 cn ci cs ct ce c6 c7 false wt) 47) := by rw [Hw3.out]; exact b1
 have HR3 : Hid (Blk w3 (w.heap.size + 1) z21 47) := by rw [Hw3.out]; exact b2
 have HF3 : Hid (Blk w3 (w.heap.size + 1 + 1) (o21 4 ⟨#[]⟩ ⟨#[]⟩ 0 0 ⟨#[]⟩ ⟨#[]⟩ ⟨#[]⟩ 0 (.slice none 0 0) 0 0 ⟨#[]⟩ ⟨#[]⟩ ⟨#[]⟩ 0 ⟨#[]⟩ 0 0 false 0) 47) := by rw [Hw3.out]; exact b3
 have HB3 : Hid (Below w.heap.size w w3) := by rw [Hw3.out]; exact b4
 clear b1 b2 b3 b4
 go_enter Tryz.func52, Tryz.ntmps52
 iterate 36 go_step
 refine wp_store_op rfl ?_ rfl rfl rfl rfl (by simp [Value.oneCell']) ?_
 ·simp only [size_new]
 go_wp2_with fail
 rw [← Hw3.out]
 clear Hw3
 refine (HCl.out w3).mono ?_
 rintro e w4 ⟨rfl, hb4⟩
 have HR4 : Hid (Blk w4 (w.heap.size + 1) z21 47) := HR3.out.below hb4
 have HF4 : Hid (Blk w4 (w.heap.size + 1 + 1) (o21 4 ⟨#[]⟩ ⟨#[]⟩ 0 0 ⟨#[]⟩ ⟨#[]⟩ ⟨#[]⟩ 0 (.slice none 0 0) 0 0 ⟨#[]⟩ ⟨#[]⟩ ⟨#[]⟩ 0 ⟨#[]⟩ 0 0 false 0) 47) := HF3.out.below hb4
 have HB4 : Hid (Below w.heap.size w w4) := HB3.out.trans (hb4.mono HB3.out.size)
 have f1 := HF4.out.cell 1 rfl
 have zf := HF4.out.open
 have HR5 : Hid (Blk (w4.setCell ⟨(w.heap.size + 1 + 1), 1, none⟩ (.string g1)) (w.heap.size + 1) z21 47) := putC_other (by omega) [.string g1] w4 1 HR4.out
 have HF5 : Hid (Blk (w4.setCell ⟨(w.heap.size + 1 + 1), 1, none⟩ (.string g1)) (w.heap.size + 1 + 1) (o21 4 g1 ⟨#[]⟩ 0 0 ⟨#[]⟩ ⟨#[]⟩ ⟨#[]⟩ 0 (.slice none 0 0) 0 0 ⟨#[]⟩ ⟨#[]⟩ ⟨#[]⟩ 0 ⟨#[]⟩ 0 0 false 0) 47) := (HF4.out).put 1 (.string g1)
 have HB5 : Hid (Below w.heap.size w (w4.setCell ⟨(w.heap.size + 1 + 1), 1, none⟩ (.string g1))) := putC_below [.string g1] w4 1 HB4.out (by omega)
 clear hb4 HA3 HR3 HF3 HB3 HCl HR4 HB4
 clear HF4
 by_cases h0 : ne = 0
 ·have HQ : Hid (_ = (⟨4, ⟨g1, ⟨#[]⟩, 0, 0⟩, svcZ, chkZ, false, 0⟩ : Opp)) := HFy.out h0
  have q : (ne != 0) = false := by simpa using h0
  have H0 : Hid (0 = ne) := h0.symm
  have HF : Hid (OppA w ⟨4, ⟨g1, ⟨#[]⟩, 0, 0⟩, svcZ, chkZ, false, 0⟩ ne (.returned (.tuple #[.agg (o21 4 g1 ⟨#[]⟩ 0 0 ⟨#[]⟩ ⟨#[]⟩ ⟨#[]⟩ 0 (.slice none 0 0) 0 0 ⟨#[]⟩ ⟨#[]⟩ ⟨#[]⟩ 0 ⟨#[]⟩ 0 0 false 0), .int .i64 0])) ((w4.setCell ⟨(w.heap.size + 1 + 1), 1, none⟩ (.string g1)).setRow (w.heap.size + 1) (o21 4 g1 ⟨#[]⟩ 0 0 ⟨#[]⟩ ⟨#[]⟩ ⟨#[]⟩ 0 (.slice none 0 0) 0 0 ⟨#[]⟩ ⟨#[]⟩ ⟨#[]⟩ 0 ⟨#[]⟩ 0 0 false 0))) := ⟨.slice none 0 0, by rw [← H0.out]; rfl, World.ownsRow_nil _ _ _ _, below_setRow HB5.out (by omega) _⟩
  have HLd : Hid ((loadVar 47 ⟨(w.heap.size + 1), 0, none⟩).run Tryz.prog ((w4.setCell ⟨(w.heap.size + 1 + 1), 1, none⟩ (.string g1)).setRow (w.heap.size + 1) (o21 4 g1 ⟨#[]⟩ 0 0 ⟨#[]⟩ ⟨#[]⟩ ⟨#[]⟩ 0 (.slice none 0 0) 0 0 ⟨#[]⟩ ⟨#[]⟩ ⟨#[]⟩ 0 ⟨#[]⟩ 0 0 false 0)) = .ok (.agg (o21 4 g1 ⟨#[]⟩ 0 0 ⟨#[]⟩ ⟨#[]⟩ ⟨#[]⟩ 0 (.slice none 0 0) 0 0 ⟨#[]⟩ ⟨#[]⟩ ⟨#[]⟩ 0 ⟨#[]⟩ 0 0 false 0)) ((w4.setCell ⟨(w.heap.size + 1 + 1), 1, none⟩ (.string g1)).setRow (w.heap.size + 1) (o21 4 g1 ⟨#[]⟩ 0 0 ⟨#[]⟩ ⟨#[]⟩ ⟨#[]⟩ 0 (.slice none 0 0) 0 0 ⟨#[]⟩ ⟨#[]⟩ ⟨#[]⟩ 0 ⟨#[]⟩ 0 0 false 0))) := load_op (blk_setRow HR5.out _) rfl
  clear h0 HFy HFn H0 HB5
  go_upto_region 21 with fail
  iterate 2 go_step
  refine wp_get_op rfl HF5.out rfl rfl ?_
  iterate 2 go_step
  refine wp_put_op rfl HR5.out rfl rfl rfl rfl (by simp [Value.oneCell']) ?_
  go_wp2
  rw [HQ.out]
  exact ret_box (g := (w.heap.size + 1)) (w := ((w4.setCell ⟨(w.heap.size + 1 + 1), 1, none⟩ (.string g1)).setRow (w.heap.size + 1) (o21 4 g1 ⟨#[]⟩ 0 0 ⟨#[]⟩ ⟨#[]⟩ ⟨#[]⟩ 0 (.slice none 0 0) 0 0 ⟨#[]⟩ ⟨#[]⟩ ⟨#[]⟩ 0 ⟨#[]⟩ 0 0 false 0))) (e := .int .i64 0) rfl rfl rfl rfl HLd.out HF.out
 ·have HQ : Hid (_ = oppZ) := HFn.out h0
  have q : (ne != 0) = true := by simpa using h0
  have HF : Hid (OppA w oppZ ne (.returned (.tuple #[.agg z21, .int .i64 ne])) ((w4.setCell ⟨(w.heap.size + 1 + 1), 1, none⟩ (.string g1)).setRow (w.heap.size + 1) z21)) := ⟨.slice none 0 0, rfl, World.ownsRow_nil _ _ _ _, below_setRow HB5.out (by omega) _⟩
  have HLd : Hid ((loadVar 47 ⟨(w.heap.size + 1), 0, none⟩).run Tryz.prog ((w4.setCell ⟨(w.heap.size + 1 + 1), 1, none⟩ (.string g1)).setRow (w.heap.size + 1) z21) = .ok (.agg z21) ((w4.setCell ⟨(w.heap.size + 1 + 1), 1, none⟩ (.string g1)).setRow (w.heap.size + 1) z21)) := load_op (blk_setRow HR5.out _) rfl
  clear HFy HFn HB5
  go_upto_region 20 with fail
  iterate 8 go_step
  refine wp_put_op rfl HR5.out rfl rfl rfl rfl (by simp [Value.oneCell']) ?_
  go_wp2
  rw [HQ.out]
  exact ret_box (g := (w.heap.size + 1)) (w := ((w4.setCell ⟨(w.heap.size + 1 + 1), 1, none⟩ (.string g1)).setRow (w.heap.size + 1) z21)) (e := .int .i64 ne) rfl rfl rfl rfl HLd.out HF.out
set_option maxRecDepth 100000 in
set_option maxHeartbeats 8000000 in
theorem fixOpa4_true (o : Opp) (hk : o.kind = 4) (hcas : o.cas = true) (ta : Option Addr) (tc : Nat) (w : World) (hs : o.small) (hc : CellsAt w ta (o.svc.tags.map Value.string)) (hv : Vs w) :
  Calls Tryz.prog 52 #[.agg (o.v (.slice ta o.svc.tags.length tc))] w fun e w' => OppA w (oppF o) (oppE o) e w' := by
 obtain ⟨hn1, hn2, hsv, hck⟩ := hs
 have HSV : Hid (Sp.small o.svc) := hsv
 have HCK : Hid (Ck.small o.chk) := hck
 have HC : Hid (CellsAt w ta (o.svc.tags.map Value.string)) := hc
 have HV : Hid (Vs w) := hv
 clear hsv hck hc hv
 obtain ⟨ne, Hne⟩ : ∃ ne, Hid (ne = labE o.node.name) := ⟨_, rfl⟩
 have HE : Hid (oppE o = ne) := by rw [Hid, Hne.out]; unfold oppE; rw [if_neg (by rw [hk]; decide), if_neg (by rw [hk]; decide), if_neg (by rw [hk]; decide), if_pos hk]
 have HFy : Hid (ne = 0 → oppF o = ⟨4, ⟨labT o.node.name, ⟨#[]⟩, 0, 0⟩, svcZ, chkZ, true, o.want⟩) := fun h => by unfold oppF; rw [if_pos (HE.out.trans h)]; unfold oppN wantF; rw [if_neg (by rw [hk]; decide), if_neg (by rw [hk]; decide), if_neg (by rw [hk]; decide), if_pos hk, hk, hcas]; rfl
 have HFn : Hid (¬ ne = 0 → oppF o = oppZ) := fun h => by unfold oppF; rw [if_neg (fun e => h (HE.out.symm.trans e))]
 obtain ⟨g1, Hg1⟩ : ∃ x, Hid (x = labT o.node.name) := ⟨_, rfl⟩
 have HCl : Hid (∀ w, Calls Tryz.prog 69 #[.string o.node.name] w fun e w' => e = .returned (.tuple #[.string g1, .int .i64 ne]) ∧ Below w.heap.size w w') := fun w => by rw [Hg1.out, Hne.out]; exact label_calls o.node.name w hn1
 rw [← Hg1.out] at HFy
 rw [HE.out]
 clear Hne HE Hg1 HSV HCK HC
 obtain ⟨kd, ⟨nn, na, n3, n4⟩, ⟨sn, si, sm, sp, tg, s6, s7⟩, ⟨cn, ci, cs, ct, ce, c6, c7⟩, cas, wt⟩ := o
 simp only [Opp.v] at *
 subst hk hcas
 generalize tg.length = tl at *
 obtain ⟨b1, b2, b3, b4⟩ := three_new w (.cells (o21 4 nn na n3 n4 sn si sm sp (.slice ta tl tc) s6 s7 cn ci cs ct ce c6 c7 true wt) 47) (.cells z21 47) (.cells (o21 4 ⟨#[]⟩ ⟨#[]⟩ 0 0 ⟨#[]⟩ ⟨#[]⟩ ⟨#[]⟩ 0 (.slice none 0 0) 0 0 ⟨#[]⟩ ⟨#[]⟩ ⟨#[]⟩ 0 ⟨#[]⟩ 0 0 true wt) 47)
 obtain ⟨w3, Hw3⟩ : ∃ w3, Hid (w3 = ((w.alloc (.cells (o21 4 nn na n3 n4 sn si sm sp (.slice ta tl tc) s6 s7 cn ci cs ct ce c6 c7 true wt) 47)).alloc (.cells z21 47)).alloc (.cells (o21 4 ⟨#[]⟩ ⟨#[]⟩ 0 0 ⟨#[]⟩ ⟨#[]⟩ ⟨#[]⟩ 0 (.slice none 0 0) 0 0 ⟨#[]⟩ ⟨#[]⟩ ⟨#[]⟩ 0 ⟨#[]⟩ 0 0 true wt) 47)) := ⟨_, rfl⟩
 have HA3 : Hid (Blk w3 w.heap.size (o21 4 nn na n3 n4 sn si sm sp (.slice ta tl tc) s6 s7 cn ci cs ct ce c6 c7 true wt) 47) := by rw [Hw3.out]; exact b1
 have HR3 : Hid (Blk w3 (w.heap.size + 1) z21 47) := by rw [Hw3.out]; exact b2
 have HF3 : Hid (Blk w3 (w.heap.size + 1 + 1) (o21 4 ⟨#[]⟩ ⟨#[]⟩ 0 0 ⟨#[]⟩ ⟨#[]⟩ ⟨#[]⟩ 0 (.slice none 0 0) 0 0 ⟨#[]⟩ ⟨#[]⟩ ⟨#[]⟩ 0 ⟨#[]⟩ 0 0 true wt) 47) := by rw [Hw3.out]; exact b3
 have HB3 : Hid (Below w.heap.size w w3) := by rw [Hw3.out]; exact b4
 clear b1 b2 b3 b4
 go_enter Tryz.func52, Tryz.ntmps52
 iterate 36 go_step
 refine wp_store_op rfl ?_ rfl rfl rfl rfl (by simp [Value.oneCell']) ?_
 ·simp only [size_new]
 go_wp2_with fail
 rw [← Hw3.out]
 clear Hw3
 refine (HCl.out w3).mono ?_
 rintro e w4 ⟨rfl, hb4⟩
 have HR4 : Hid (Blk w4 (w.heap.size + 1) z21 47) := HR3.out.below hb4
 have HF4 : Hid (Blk w4 (w.heap.size + 1 + 1) (o21 4 ⟨#[]⟩ ⟨#[]⟩ 0 0 ⟨#[]⟩ ⟨#[]⟩ ⟨#[]⟩ 0 (.slice none 0 0) 0 0 ⟨#[]⟩ ⟨#[]⟩ ⟨#[]⟩ 0 ⟨#[]⟩ 0 0 true wt) 47) := HF3.out.below hb4
 have HB4 : Hid (Below w.heap.size w w4) := HB3.out.trans (hb4.mono HB3.out.size)
 have f1 := HF4.out.cell 1 rfl
 have zf := HF4.out.open
 have HR5 : Hid (Blk (w4.setCell ⟨(w.heap.size + 1 + 1), 1, none⟩ (.string g1)) (w.heap.size + 1) z21 47) := putC_other (by omega) [.string g1] w4 1 HR4.out
 have HF5 : Hid (Blk (w4.setCell ⟨(w.heap.size + 1 + 1), 1, none⟩ (.string g1)) (w.heap.size + 1 + 1) (o21 4 g1 ⟨#[]⟩ 0 0 ⟨#[]⟩ ⟨#[]⟩ ⟨#[]⟩ 0 (.slice none 0 0) 0 0 ⟨#[]⟩ ⟨#[]⟩ ⟨#[]⟩ 0 ⟨#[]⟩ 0 0 true wt) 47) := (HF4.out).put 1 (.string g1)
 have HB5 : Hid (Below w.heap.size w (w4.setCell ⟨(w.heap.size + 1 + 1), 1, none⟩ (.string g1))) := putC_below [.string g1] w4 1 HB4.out (by omega)
 clear hb4 HA3 HR3 HF3 HB3 HCl HR4 HB4
 clear HF4
 by_cases h0 : ne = 0
 ·have HQ : Hid (_ = (⟨4, ⟨g1, ⟨#[]⟩, 0, 0⟩, svcZ, chkZ, true, wt⟩ : Opp)) := HFy.out h0
  have q : (ne != 0) = false := by simpa using h0
  have H0 : Hid (0 = ne) := h0.symm
  have HF : Hid (OppA w ⟨4, ⟨g1, ⟨#[]⟩, 0, 0⟩, svcZ, chkZ, true, wt⟩ ne (.returned (.tuple #[.agg (o21 4 g1 ⟨#[]⟩ 0 0 ⟨#[]⟩ ⟨#[]⟩ ⟨#[]⟩ 0 (.slice none 0 0) 0 0 ⟨#[]⟩ ⟨#[]⟩ ⟨#[]⟩ 0 ⟨#[]⟩ 0 0 true wt), .int .i64 0])) ((w4.setCell ⟨(w.heap.size + 1 + 1), 1, none⟩ (.string g1)).setRow (w.heap.size + 1) (o21 4 g1 ⟨#[]⟩ 0 0 ⟨#[]⟩ ⟨#[]⟩ ⟨#[]⟩ 0 (.slice none 0 0) 0 0 ⟨#[]⟩ ⟨#[]⟩ ⟨#[]⟩ 0 ⟨#[]⟩ 0 0 true wt))) := ⟨.slice none 0 0, by rw [← H0.out]; rfl, World.ownsRow_nil _ _ _ _, below_setRow HB5.out (by omega) _⟩
  have HLd : Hid ((loadVar 47 ⟨(w.heap.size + 1), 0, none⟩).run Tryz.prog ((w4.setCell ⟨(w.heap.size + 1 + 1), 1, none⟩ (.string g1)).setRow (w.heap.size + 1) (o21 4 g1 ⟨#[]⟩ 0 0 ⟨#[]⟩ ⟨#[]⟩ ⟨#[]⟩ 0 (.slice none 0 0) 0 0 ⟨#[]⟩ ⟨#[]⟩ ⟨#[]⟩ 0 ⟨#[]⟩ 0 0 true wt)) = .ok (.agg (o21 4 g1 ⟨#[]⟩ 0 0 ⟨#[]⟩ ⟨#[]⟩ ⟨#[]⟩ 0 (.slice none 0 0) 0 0 ⟨#[]⟩ ⟨#[]⟩ ⟨#[]⟩ 0 ⟨#[]⟩ 0 0 true wt)) ((w4.setCell ⟨(w.heap.size + 1 + 1), 1, none⟩ (.string g1)).setRow (w.heap.size + 1) (o21 4 g1 ⟨#[]⟩ 0 0 ⟨#[]⟩ ⟨#[]⟩ ⟨#[]⟩ 0 (.slice none 0 0) 0 0 ⟨#[]⟩ ⟨#[]⟩ ⟨#[]⟩ 0 ⟨#[]⟩ 0 0 true wt))) := load_op (blk_setRow HR5.out _) rfl
  clear h0 HFy HFn H0 HB5
  go_upto_region 21 with fail
  iterate 2 go_step
  refine wp_get_op rfl HF5.out rfl rfl ?_
  iterate 2 go_step
  refine wp_put_op rfl HR5.out rfl rfl rfl rfl (by simp [Value.oneCell']) ?_
  go_wp2
  rw [HQ.out]
  exact ret_box (g := (w.heap.size + 1)) (w := ((w4.setCell ⟨(w.heap.size + 1 + 1), 1, none⟩ (.string g1)).setRow (w.heap.size + 1) (o21 4 g1 ⟨#[]⟩ 0 0 ⟨#[]⟩ ⟨#[]⟩ ⟨#[]⟩ 0 (.slice none 0 0) 0 0 ⟨#[]⟩ ⟨#[]⟩ ⟨#[]⟩ 0 ⟨#[]⟩ 0 0 true wt))) (e := .int .i64 0) rfl rfl rfl rfl HLd.out HF.out
 ·have HQ : Hid (_ = oppZ) := HFn.out h0
  have q : (ne != 0) = true := by simpa using h0
  have HF : Hid (OppA w oppZ ne (.returned (.tuple #[.agg z21, .int .i64 ne])) ((w4.setCell ⟨(w.heap.size + 1 + 1), 1, none⟩ (.string g1)).setRow (w.heap.size + 1) z21)) := ⟨.slice none 0 0, rfl, World.ownsRow_nil _ _ _ _, below_setRow HB5.out (by omega) _⟩
  have HLd : Hid ((loadVar 47 ⟨(w.heap.size + 1), 0, none⟩).run Tryz.prog ((w4.setCell ⟨(w.heap.size + 1 + 1), 1, none⟩ (.string g1)).setRow (w.heap.size + 1) z21) = .ok (.agg z21) ((w4.setCell ⟨(w.heap.size + 1 + 1), 1, none⟩ (.string g1)).setRow (w.heap.size + 1) z21)) := load_op (blk_setRow HR5.out _) rfl
  clear HFy HFn HB5
  go_upto_region 20 with fail
  iterate 8 go_step
  refine wp_put_op rfl HR5.out rfl rfl rfl rfl (by simp [Value.oneCell']) ?_
  go_wp2
  rw [HQ.out]
  exact ret_box (g := (w.heap.size + 1)) (w := ((w4.setCell ⟨(w.heap.size + 1 + 1), 1, none⟩ (.string g1)).setRow (w.heap.size + 1) z21)) (e := .int .i64 ne) rfl rfl rfl rfl HLd.out HF.out
end Go.Proofs.YthgcnmilaifkoaaGreatDoor
