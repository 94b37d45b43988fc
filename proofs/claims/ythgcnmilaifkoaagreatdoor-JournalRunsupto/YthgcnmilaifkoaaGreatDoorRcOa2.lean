/- Layer 9 (records): FixOp, a service. -/
import Derived.Test.YthgcnmilaifkoaaGreatDoorRcCopyS
namespace Go.Proofs.YthgcnmilaifkoaaGreatDoor
open Go.RowKit
set_option linter.unusedVariables false

set_option maxRecDepth 100000 in
set_option maxHeartbeats 8000000 in
theorem fixOpa2_false (o : Opp) (hk : o.kind = 2) (hcas : o.cas = false) (ta : Option Addr) (tc : Nat) (w : World) (hs : o.small) (hc : CellsAt w ta (o.svc.tags.map Value.string)) (hv : Vs w) :
  Calls Tryz.prog 52 #[.agg (o.v (.slice ta o.svc.tags.length tc))] w fun e w' => OppA w (oppF o) (oppE o) e w' := by
 obtain ⟨hn1, hn2, hsv, hck⟩ := hs
 have HSV : Hid (Sp.small o.svc) := hsv
 have HCK : Hid (Ck.small o.chk) := hck
 have HC : Hid (CellsAt w ta (o.svc.tags.map Value.string)) := hc
 have HV : Hid (Vs w) := hv
 clear hsv hck hc hv
 obtain ⟨ne, Hne⟩ : ∃ ne, Hid (ne = svcE o.svc) := ⟨_, rfl⟩
 have HE : Hid (oppE o = ne) := by rw [Hid, Hne.out]; unfold oppE; rw [if_neg (by rw [hk]; decide), if_pos hk]
 obtain ⟨fx, Hfx⟩ : ∃ fx, Hid (fx = svcF o.svc) := ⟨_, rfl⟩
 have HFy : Hid (ne = 0 → oppF o = ⟨2, nodeZ, fx, chkZ, false, 0⟩) := fun h => by unfold oppF; rw [if_pos (HE.out.trans h)]; unfold oppN wantF; rw [if_neg (by rw [hk]; decide), if_pos hk, hk, hcas, Hfx.out]; rfl
 have HFn : Hid (¬ ne = 0 → oppF o = oppZ) := fun h => by unfold oppF; rw [if_neg (fun e => h (HE.out.symm.trans e))]
 have HCl : Hid (∀ w, CellsAt w ta (o.svc.tags.map Value.string) → Calls Tryz.prog 67 #[.agg (o.svc.v (.slice ta o.svc.tags.length tc))] w fun e w' => SvcA w fx ne e w') := fun w h => by rw [Hfx.out, Hne.out]; exact fixService_calls o.svc ta tc w HSV.out h
 rw [HE.out]
 clear Hne HE Hfx HSV HCK
 obtain ⟨kd, ⟨nn, na, n3, n4⟩, ⟨sn, si, sm, sp, tg, s6, s7⟩, ⟨cn, ci, cs, ct, ce, c6, c7⟩, cas, wt⟩ := o
 obtain ⟨g1, g2, g3, g4, g5, g6, g7⟩ := fx
 simp only [Opp.v, Sp.v, SvcA] at *
 subst hk hcas
 obtain ⟨tl, Htl⟩ : ∃ x, Hid (x = tg.length) := ⟨_, rfl⟩
 obtain ⟨TL, HTL⟩ : ∃ x, Hid (x = tg.map Value.string) := ⟨_, rfl⟩
 rw [← Htl.out] at HCl ⊢
 rw [← HTL.out] at HCl HC
 clear HTL Htl
 obtain ⟨b1, b2, b3, b4⟩ := three_new w (.cells (o21 2 nn na n3 n4 sn si sm sp (.slice ta tl tc) s6 s7 cn ci cs ct ce c6 c7 false wt) 47) (.cells z21 47) (.cells (o21 2 ⟨#[]⟩ ⟨#[]⟩ 0 0 ⟨#[]⟩ ⟨#[]⟩ ⟨#[]⟩ 0 (.slice none 0 0) 0 0 ⟨#[]⟩ ⟨#[]⟩ ⟨#[]⟩ 0 ⟨#[]⟩ 0 0 false 0) 47)
 obtain ⟨w3, Hw3⟩ : ∃ w3, Hid (w3 = ((w.alloc (.cells (o21 2 nn na n3 n4 sn si sm sp (.slice ta tl tc) s6 s7 cn ci cs ct ce c6 c7 false wt) 47)).alloc (.cells z21 47)).alloc (.cells (o21 2 ⟨#[]⟩ ⟨#[]⟩ 0 0 ⟨#[]⟩ ⟨#[]⟩ ⟨#[]⟩ 0 (.slice none 0 0) 0 0 ⟨#[]⟩ ⟨#[]⟩ ⟨#[]⟩ 0 ⟨#[]⟩ 0 0 false 0) 47)) := ⟨_, rfl⟩
 have HA3 : Hid (Blk w3 w.heap.size (o21 2 nn na n3 n4 sn si sm sp (.slice ta tl tc) s6 s7 cn ci cs ct ce c6 c7 false wt) 47) := by rw [Hw3.out]; exact b1
 have HR3 : Hid (Blk w3 (w.heap.size + 1) z21 47) := by rw [Hw3.out]; exact b2
 have HF3 : Hid (Blk w3 (w.heap.size + 1 + 1) (o21 2 ⟨#[]⟩ ⟨#[]⟩ 0 0 ⟨#[]⟩ ⟨#[]⟩ ⟨#[]⟩ 0 (.slice none 0 0) 0 0 ⟨#[]⟩ ⟨#[]⟩ ⟨#[]⟩ 0 ⟨#[]⟩ 0 0 false 0) 47) := by rw [Hw3.out]; exact b3
 have HB3 : Hid (Below w.heap.size w w3) := by rw [Hw3.out]; exact b4
 clear b1 b2 b3 b4
 go_enter Tryz.func52, Tryz.ntmps52
 iterate 36 go_step
 refine wp_store_op rfl ?_ rfl rfl rfl rfl (by simp [Value.oneCell']) ?_
 ·simp only [size_new]
 go_upto_region 10 with fail
 rw [← Hw3.out]
 clear Hw3
 iterate 5 go_step
 refine wp_get_part (n := 7) (l := [.string sn, .string si, .string sm, .int .i64 sp, .slice ta tl tc, .int .u64 s6, .int .u64 s7]) rfl HA3.out rfl rfl Tryz.underlying41 rfl size_svc ?_
 go_wp2_with fail
 refine (HCl.out w3 (HC.out.below HB3.out)).mono ?_
 rintro e w4 ⟨v, rfl, ho4, hb4⟩
 obtain ⟨va, vn, vc, rfl⟩ : ∃ va vn vc, v = .slice va vn vc := by
  rcases ho4.2 with ⟨rfl, _⟩ | ⟨g, cap, cur, rfl, _⟩
  ·exact ⟨_, _, _, rfl⟩
  ·exact ⟨_, _, _, rfl⟩
 have HO4 : Hid (w4.ownsRow w.heap.size 9 1 (.slice va vn vc) g5.length (g5.map Value.string)) := row_weak HB3.out.size ho4
 clear ho4
 have HR4 : Hid (Blk w4 (w.heap.size + 1) z21 47) := HR3.out.below hb4
 have HF4 : Hid (Blk w4 (w.heap.size + 1 + 1) (o21 2 ⟨#[]⟩ ⟨#[]⟩ 0 0 ⟨#[]⟩ ⟨#[]⟩ ⟨#[]⟩ 0 (.slice none 0 0) 0 0 ⟨#[]⟩ ⟨#[]⟩ ⟨#[]⟩ 0 ⟨#[]⟩ 0 0 false 0) 47) := HF3.out.below hb4
 have HB4 : Hid (Below w.heap.size w w4) := HB3.out.trans (hb4.mono HB3.out.size)
 have HR5 : Hid (Blk (putC w4 (w.heap.size + 1 + 1) 5 [.string g1, .string g2, .string g3, .int .i64 g4, .slice va vn vc, .int .u64 g6, .int .u64 g7]) (w.heap.size + 1) z21 47) := putC_other (by omega) [.string g1, .string g2, .string g3, .int .i64 g4, .slice va vn vc, .int .u64 g6, .int .u64 g7] w4 5 HR4.out
 have HF5 : Hid (Blk (putC w4 (w.heap.size + 1 + 1) 5 [.string g1, .string g2, .string g3, .int .i64 g4, .slice va vn vc, .int .u64 g6, .int .u64 g7]) (w.heap.size + 1 + 1) (o21 2 ⟨#[]⟩ ⟨#[]⟩ 0 0 g1 g2 g3 g4 (.slice va vn vc) g6 g7 ⟨#[]⟩ ⟨#[]⟩ ⟨#[]⟩ 0 ⟨#[]⟩ 0 0 false 0) 47) := putC_mid [.string g1, .string g2, .string g3, .int .i64 g4, .slice va vn vc, .int .u64 g6, .int .u64 g7] w4 5 _ HF4.out (by simp)
 have HB5 : Hid (Below w.heap.size w (putC w4 (w.heap.size + 1 + 1) 5 [.string g1, .string g2, .string g3, .int .i64 g4, .slice va vn vc, .int .u64 g6, .int .u64 g7])) := putC_below [.string g1, .string g2, .string g3, .int .i64 g4, .slice va vn vc, .int .u64 g6, .int .u64 g7] w4 5 HB4.out (by omega)
 have HO5 : Hid (World.ownsRow (putC w4 (w.heap.size + 1 + 1) 5 [.string g1, .string g2, .string g3, .int .i64 g4, .slice va vn vc, .int .u64 g6, .int .u64 g7]) w.heap.size 9 1 (.slice va vn vc) g5.length (g5.map Value.string)) := row_putK HF4.out (by decide) HO4.out [.string g1, .string g2, .string g3, .int .i64 g4, .slice va vn vc, .int .u64 g6, .int .u64 g7] 5
 clear hb4 HA3 HR3 HF3 HB3 HCl HR4 HB4
 dsimp only
 iterate 14 go_step
 refine wp_put_part (l := [.string g1, .string g2, .string g3, .int .i64 g4, .slice va vn vc, .int .u64 g6, .int .u64 g7]) rfl HF4.out rfl rfl (by simp) size_svc (by simp [Value.oneCell']) ?_
 obtain ⟨w5, Hw5⟩ : ∃ w5, Hid (w5 = (putC w4 (w.heap.size + 1 + 1) 5 [.string g1, .string g2, .string g3, .int .i64 g4, .slice va vn vc, .int .u64 g6, .int .u64 g7])) := ⟨_, rfl⟩
 rw [← Hw5.out] at HR5 HF5 HB5 HO5 ⊢
 clear Hw5
 clear HF4
 by_cases h0 : ne = 0
 ·have HQ : Hid (_ = (⟨2, nodeZ, ⟨g1, g2, g3, g4, g5, g6, g7⟩, chkZ, false, 0⟩ : Opp)) := HFy.out h0
  have q : (ne != 0) = false := by simpa using h0
  have H0 : Hid (0 = ne) := h0.symm
  have HF : Hid (OppA w ⟨2, nodeZ, ⟨g1, g2, g3, g4, g5, g6, g7⟩, chkZ, false, 0⟩ ne (.returned (.tuple #[.agg (o21 2 ⟨#[]⟩ ⟨#[]⟩ 0 0 g1 g2 g3 g4 (.slice va vn vc) g6 g7 ⟨#[]⟩ ⟨#[]⟩ ⟨#[]⟩ 0 ⟨#[]⟩ 0 0 false 0), .int .i64 0])) (w5.setRow (w.heap.size + 1) (o21 2 ⟨#[]⟩ ⟨#[]⟩ 0 0 g1 g2 g3 g4 (.slice va vn vc) g6 g7 ⟨#[]⟩ ⟨#[]⟩ ⟨#[]⟩ 0 ⟨#[]⟩ 0 0 false 0))) := ⟨.slice va vn vc, by rw [← H0.out]; rfl, row_setRow HR5.out (by decide) HO5.out _, below_setRow HB5.out (by omega) _⟩
  have HLd : Hid ((loadVar 47 ⟨(w.heap.size + 1), 0, none⟩).run Tryz.prog (w5.setRow (w.heap.size + 1) (o21 2 ⟨#[]⟩ ⟨#[]⟩ 0 0 g1 g2 g3 g4 (.slice va vn vc) g6 g7 ⟨#[]⟩ ⟨#[]⟩ ⟨#[]⟩ 0 ⟨#[]⟩ 0 0 false 0)) = .ok (.agg (o21 2 ⟨#[]⟩ ⟨#[]⟩ 0 0 g1 g2 g3 g4 (.slice va vn vc) g6 g7 ⟨#[]⟩ ⟨#[]⟩ ⟨#[]⟩ 0 ⟨#[]⟩ 0 0 false 0)) (w5.setRow (w.heap.size + 1) (o21 2 ⟨#[]⟩ ⟨#[]⟩ 0 0 g1 g2 g3 g4 (.slice va vn vc) g6 g7 ⟨#[]⟩ ⟨#[]⟩ ⟨#[]⟩ 0 ⟨#[]⟩ 0 0 false 0))) := load_op (blk_setRow HR5.out _) rfl
  clear h0 HFy HFn H0 HB5
  go_upto_region 21 with fail
  iterate 2 go_step
  refine wp_get_op rfl HF5.out rfl rfl ?_
  iterate 2 go_step
  refine wp_put_op rfl HR5.out rfl rfl rfl rfl (by simp [Value.oneCell']) ?_
  go_wp2
  rw [HQ.out]
  exact ret_box (g := (w.heap.size + 1)) (w := (w5.setRow (w.heap.size + 1) (o21 2 ⟨#[]⟩ ⟨#[]⟩ 0 0 g1 g2 g3 g4 (.slice va vn vc) g6 g7 ⟨#[]⟩ ⟨#[]⟩ ⟨#[]⟩ 0 ⟨#[]⟩ 0 0 false 0))) (e := .int .i64 0) rfl rfl rfl rfl HLd.out HF.out
 ·have HQ : Hid (_ = oppZ) := HFn.out h0
  have q : (ne != 0) = true := by simpa using h0
  have HF : Hid (OppA w oppZ ne (.returned (.tuple #[.agg z21, .int .i64 ne])) (w5.setRow (w.heap.size + 1) z21)) := ⟨.slice none 0 0, rfl, World.ownsRow_nil _ _ _ _, below_setRow HB5.out (by omega) _⟩
  have HLd : Hid ((loadVar 47 ⟨(w.heap.size + 1), 0, none⟩).run Tryz.prog (w5.setRow (w.heap.size + 1) z21) = .ok (.agg z21) (w5.setRow (w.heap.size + 1) z21)) := load_op (blk_setRow HR5.out _) rfl
  clear HFy HFn HB5
  go_upto_region 20 with fail
  iterate 8 go_step
  refine wp_put_op rfl HR5.out rfl rfl rfl rfl (by simp [Value.oneCell']) ?_
  go_wp2
  rw [HQ.out]
  exact ret_box (g := (w.heap.size + 1)) (w := (w5.setRow (w.heap.size + 1) z21)) (e := .int .i64 ne) rfl rfl rfl rfl HLd.out HF.out
set_option maxRecDepth 100000 in
set_option maxHeartbeats 8000000 in
theorem fixOpa2_true (o : Opp) (hk : o.kind = 2) (hcas : o.cas = true) (ta : Option Addr) (tc : Nat) (w : World) (hs : o.small) (hc : CellsAt w ta (o.svc.tags.map Value.string)) (hv : Vs w) :
  Calls Tryz.prog 52 #[.agg (o.v (.slice ta o.svc.tags.length tc))] w fun e w' => OppA w (oppF o) (oppE o) e w' := by
 obtain ⟨hn1, hn2, hsv, hck⟩ := hs
 have HSV : Hid (Sp.small o.svc) := hsv
 have HCK : Hid (Ck.small o.chk) := hck
 have HC : Hid (CellsAt w ta (o.svc.tags.map Value.string)) := hc
 have HV : Hid (Vs w) := hv
 clear hsv hck hc hv
 obtain ⟨ne, Hne⟩ : ∃ ne, Hid (ne = svcE o.svc) := ⟨_, rfl⟩
 have HE : Hid (oppE o = ne) := by rw [Hid, Hne.out]; unfold oppE; rw [if_neg (by rw [hk]; decide), if_pos hk]
 obtain ⟨fx, Hfx⟩ : ∃ fx, Hid (fx = svcF o.svc) := ⟨_, rfl⟩
 have HFy : Hid (ne = 0 → oppF o = ⟨2, nodeZ, fx, chkZ, true, o.want⟩) := fun h => by unfold oppF; rw [if_pos (HE.out.trans h)]; unfold oppN wantF; rw [if_neg (by rw [hk]; decide), if_pos hk, hk, hcas, Hfx.out]; rfl
 have HFn : Hid (¬ ne = 0 → oppF o = oppZ) := fun h => by unfold oppF; rw [if_neg (fun e => h (HE.out.symm.trans e))]
 have HCl : Hid (∀ w, CellsAt w ta (o.svc.tags.map Value.string) → Calls Tryz.prog 67 #[.agg (o.svc.v (.slice ta o.svc.tags.length tc))] w fun e w' => SvcA w fx ne e w') := fun w h => by rw [Hfx.out, Hne.out]; exact fixService_calls o.svc ta tc w HSV.out h
 rw [HE.out]
 clear Hne HE Hfx HSV HCK
 obtain ⟨kd, ⟨nn, na, n3, n4⟩, ⟨sn, si, sm, sp, tg, s6, s7⟩, ⟨cn, ci, cs, ct, ce, c6, c7⟩, cas, wt⟩ := o
 obtain ⟨g1, g2, g3, g4, g5, g6, g7⟩ := fx
 simp only [Opp.v, Sp.v, SvcA] at *
 subst hk hcas
 obtain ⟨tl, Htl⟩ : ∃ x, Hid (x = tg.length) := ⟨_, rfl⟩
 obtain ⟨TL, HTL⟩ : ∃ x, Hid (x = tg.map Value.string) := ⟨_, rfl⟩
 rw [← Htl.out] at HCl ⊢
 rw [← HTL.out] at HCl HC
 clear HTL Htl
 obtain ⟨b1, b2, b3, b4⟩ := three_new w (.cells (o21 2 nn na n3 n4 sn si sm sp (.slice ta tl tc) s6 s7 cn ci cs ct ce c6 c7 true wt) 47) (.cells z21 47) (.cells (o21 2 ⟨#[]⟩ ⟨#[]⟩ 0 0 ⟨#[]⟩ ⟨#[]⟩ ⟨#[]⟩ 0 (.slice none 0 0) 0 0 ⟨#[]⟩ ⟨#[]⟩ ⟨#[]⟩ 0 ⟨#[]⟩ 0 0 true wt) 47)
 obtain ⟨w3, Hw3⟩ : ∃ w3, Hid (w3 = ((w.alloc (.cells (o21 2 nn na n3 n4 sn si sm sp (.slice ta tl tc) s6 s7 cn ci cs ct ce c6 c7 true wt) 47)).alloc (.cells z21 47)).alloc (.cells (o21 2 ⟨#[]⟩ ⟨#[]⟩ 0 0 ⟨#[]⟩ ⟨#[]⟩ ⟨#[]⟩ 0 (.slice none 0 0) 0 0 ⟨#[]⟩ ⟨#[]⟩ ⟨#[]⟩ 0 ⟨#[]⟩ 0 0 true wt) 47)) := ⟨_, rfl⟩
 have HA3 : Hid (Blk w3 w.heap.size (o21 2 nn na n3 n4 sn si sm sp (.slice ta tl tc) s6 s7 cn ci cs ct ce c6 c7 true wt) 47) := by rw [Hw3.out]; exact b1
 have HR3 : Hid (Blk w3 (w.heap.size + 1) z21 47) := by rw [Hw3.out]; exact b2
 have HF3 : Hid (Blk w3 (w.heap.size + 1 + 1) (o21 2 ⟨#[]⟩ ⟨#[]⟩ 0 0 ⟨#[]⟩ ⟨#[]⟩ ⟨#[]⟩ 0 (.slice none 0 0) 0 0 ⟨#[]⟩ ⟨#[]⟩ ⟨#[]⟩ 0 ⟨#[]⟩ 0 0 true wt) 47) := by rw [Hw3.out]; exact b3
 have HB3 : Hid (Below w.heap.size w w3) := by rw [Hw3.out]; exact b4
 clear b1 b2 b3 b4
 go_enter Tryz.func52, Tryz.ntmps52
 iterate 36 go_step
 refine wp_store_op rfl ?_ rfl rfl rfl rfl (by simp [Value.oneCell']) ?_
 ·simp only [size_new]
 go_upto_region 10 with fail
 rw [← Hw3.out]
 clear Hw3
 iterate 5 go_step
 refine wp_get_part (n := 7) (l := [.string sn, .string si, .string sm, .int .i64 sp, .slice ta tl tc, .int .u64 s6, .int .u64 s7]) rfl HA3.out rfl rfl Tryz.underlying41 rfl size_svc ?_
 go_wp2_with fail
 refine (HCl.out w3 (HC.out.below HB3.out)).mono ?_
 rintro e w4 ⟨v, rfl, ho4, hb4⟩
 obtain ⟨va, vn, vc, rfl⟩ : ∃ va vn vc, v = .slice va vn vc := by
  rcases ho4.2 with ⟨rfl, _⟩ | ⟨g, cap, cur, rfl, _⟩
  ·exact ⟨_, _, _, rfl⟩
  ·exact ⟨_, _, _, rfl⟩
 have HO4 : Hid (w4.ownsRow w.heap.size 9 1 (.slice va vn vc) g5.length (g5.map Value.string)) := row_weak HB3.out.size ho4
 clear ho4
 have HR4 : Hid (Blk w4 (w.heap.size + 1) z21 47) := HR3.out.below hb4
 have HF4 : Hid (Blk w4 (w.heap.size + 1 + 1) (o21 2 ⟨#[]⟩ ⟨#[]⟩ 0 0 ⟨#[]⟩ ⟨#[]⟩ ⟨#[]⟩ 0 (.slice none 0 0) 0 0 ⟨#[]⟩ ⟨#[]⟩ ⟨#[]⟩ 0 ⟨#[]⟩ 0 0 true wt) 47) := HF3.out.below hb4
 have HB4 : Hid (Below w.heap.size w w4) := HB3.out.trans (hb4.mono HB3.out.size)
 have HR5 : Hid (Blk (putC w4 (w.heap.size + 1 + 1) 5 [.string g1, .string g2, .string g3, .int .i64 g4, .slice va vn vc, .int .u64 g6, .int .u64 g7]) (w.heap.size + 1) z21 47) := putC_other (by omega) [.string g1, .string g2, .string g3, .int .i64 g4, .slice va vn vc, .int .u64 g6, .int .u64 g7] w4 5 HR4.out
 have HF5 : Hid (Blk (putC w4 (w.heap.size + 1 + 1) 5 [.string g1, .string g2, .string g3, .int .i64 g4, .slice va vn vc, .int .u64 g6, .int .u64 g7]) (w.heap.size + 1 + 1) (o21 2 ⟨#[]⟩ ⟨#[]⟩ 0 0 g1 g2 g3 g4 (.slice va vn vc) g6 g7 ⟨#[]⟩ ⟨#[]⟩ ⟨#[]⟩ 0 ⟨#[]⟩ 0 0 true wt) 47) := putC_mid [.string g1, .string g2, .string g3, .int .i64 g4, .slice va vn vc, .int .u64 g6, .int .u64 g7] w4 5 _ HF4.out (by simp)
 have HB5 : Hid (Below w.heap.size w (putC w4 (w.heap.size + 1 + 1) 5 [.string g1, .string g2, .string g3, .int .i64 g4, .slice va vn vc, .int .u64 g6, .int .u64 g7])) := putC_below [.string g1, .string g2, .string g3, .int .i64 g4, .slice va vn vc, .int .u64 g6, .int .u64 g7] w4 5 HB4.out (by omega)
 have HO5 : Hid (World.ownsRow (putC w4 (w.heap.size + 1 + 1) 5 [.string g1, .string g2, .string g3, .int .i64 g4, .slice va vn vc, .int .u64 g6, .int .u64 g7]) w.heap.size 9 1 (.slice va vn vc) g5.length (g5.map Value.string)) := row_putK HF4.out (by decide) HO4.out [.string g1, .string g2, .string g3, .int .i64 g4, .slice va vn vc, .int .u64 g6, .int .u64 g7] 5
 clear hb4 HA3 HR3 HF3 HB3 HCl HR4 HB4
 dsimp only
 iterate 14 go_step
 refine wp_put_part (l := [.string g1, .string g2, .string g3, .int .i64 g4, .slice va vn vc, .int .u64 g6, .int .u64 g7]) rfl HF4.out rfl rfl (by simp) size_svc (by simp [Value.oneCell']) ?_
 obtain ⟨w5, Hw5⟩ : ∃ w5, Hid (w5 = (putC w4 (w.heap.size + 1 + 1) 5 [.string g1, .string g2, .string g3, .int .i64 g4, .slice va vn vc, .int .u64 g6, .int .u64 g7])) := ⟨_, rfl⟩
 rw [← Hw5.out] at HR5 HF5 HB5 HO5 ⊢
 clear Hw5
 clear HF4
 by_cases h0 : ne = 0
 ·have HQ : Hid (_ = (⟨2, nodeZ, ⟨g1, g2, g3, g4, g5, g6, g7⟩, chkZ, true, wt⟩ : Opp)) := HFy.out h0
  have q : (ne != 0) = false := by simpa using h0
  have H0 : Hid (0 = ne) := h0.symm
  have HF : Hid (OppA w ⟨2, nodeZ, ⟨g1, g2, g3, g4, g5, g6, g7⟩, chkZ, true, wt⟩ ne (.returned (.tuple #[.agg (o21 2 ⟨#[]⟩ ⟨#[]⟩ 0 0 g1 g2 g3 g4 (.slice va vn vc) g6 g7 ⟨#[]⟩ ⟨#[]⟩ ⟨#[]⟩ 0 ⟨#[]⟩ 0 0 true wt), .int .i64 0])) (w5.setRow (w.heap.size + 1) (o21 2 ⟨#[]⟩ ⟨#[]⟩ 0 0 g1 g2 g3 g4 (.slice va vn vc) g6 g7 ⟨#[]⟩ ⟨#[]⟩ ⟨#[]⟩ 0 ⟨#[]⟩ 0 0 true wt))) := ⟨.slice va vn vc, by rw [← H0.out]; rfl, row_setRow HR5.out (by decide) HO5.out _, below_setRow HB5.out (by omega) _⟩
  have HLd : Hid ((loadVar 47 ⟨(w.heap.size + 1), 0, none⟩).run Tryz.prog (w5.setRow (w.heap.size + 1) (o21 2 ⟨#[]⟩ ⟨#[]⟩ 0 0 g1 g2 g3 g4 (.slice va vn vc) g6 g7 ⟨#[]⟩ ⟨#[]⟩ ⟨#[]⟩ 0 ⟨#[]⟩ 0 0 true wt)) = .ok (.agg (o21 2 ⟨#[]⟩ ⟨#[]⟩ 0 0 g1 g2 g3 g4 (.slice va vn vc) g6 g7 ⟨#[]⟩ ⟨#[]⟩ ⟨#[]⟩ 0 ⟨#[]⟩ 0 0 true wt)) (w5.setRow (w.heap.size + 1) (o21 2 ⟨#[]⟩ ⟨#[]⟩ 0 0 g1 g2 g3 g4 (.slice va vn vc) g6 g7 ⟨#[]⟩ ⟨#[]⟩ ⟨#[]⟩ 0 ⟨#[]⟩ 0 0 true wt))) := load_op (blk_setRow HR5.out _) rfl
  clear h0 HFy HFn H0 HB5
  go_upto_region 21 with fail
  iterate 2 go_step
  refine wp_get_op rfl HF5.out rfl rfl ?_
  iterate 2 go_step
  refine wp_put_op rfl HR5.out rfl rfl rfl rfl (by simp [Value.oneCell']) ?_
  go_wp2
  rw [HQ.out]
  exact ret_box (g := (w.heap.size + 1)) (w := (w5.setRow (w.heap.size + 1) (o21 2 ⟨#[]⟩ ⟨#[]⟩ 0 0 g1 g2 g3 g4 (.slice va vn vc) g6 g7 ⟨#[]⟩ ⟨#[]⟩ ⟨#[]⟩ 0 ⟨#[]⟩ 0 0 true wt))) (e := .int .i64 0) rfl rfl rfl rfl HLd.out HF.out
 ·have HQ : Hid (_ = oppZ) := HFn.out h0
  have q : (ne != 0) = true := by simpa using h0
  have HF : Hid (OppA w oppZ ne (.returned (.tuple #[.agg z21, .int .i64 ne])) (w5.setRow (w.heap.size + 1) z21)) := ⟨.slice none 0 0, rfl, World.ownsRow_nil _ _ _ _, below_setRow HB5.out (by omega) _⟩
  have HLd : Hid ((loadVar 47 ⟨(w.heap.size + 1), 0, none⟩).run Tryz.prog (w5.setRow (w.heap.size + 1) z21) = .ok (.agg z21) (w5.setRow (w.heap.size + 1) z21)) := load_op (blk_setRow HR5.out _) rfl
  clear HFy HFn HB5
  go_upto_region 20 with fail
  iterate 8 go_step
  refine wp_put_op rfl HR5.out rfl rfl rfl rfl (by simp [Value.oneCell']) ?_
  go_wp2
  rw [HQ.out]
  exact ret_box (g := (w.heap.size + 1)) (w := (w5.setRow (w.heap.size + 1) z21)) (e := .int .i64 ne) rfl rfl rfl rfl HLd.out HF.out
end Go.Proofs.YthgcnmilaifkoaaGreatDoor
