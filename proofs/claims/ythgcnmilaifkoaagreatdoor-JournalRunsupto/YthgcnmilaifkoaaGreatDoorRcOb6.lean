/- Layer 9 (records): the document's FixOp, a check dropped. -/
import Derived.Test.YthgcnmilaifkoaaGreatDoorRcOb2
namespace Go.Proofs.YthgcnmilaifkoaaGreatDoor
open Go.RowKit
set_option linter.unusedVariables false

set_option maxRecDepth 100000 in
set_option maxHeartbeats 8000000 in
theorem fixOpb6_false (o : Opp) (hk : o.kind = 6) (hcas : o.cas = false) (ta : Option Addr) (tc : Nat) (w : World) (hs : o.small) (hna : o.node.addr.size ≤ 1048576) (hc : CellsAt w ta (o.svc.tags.map Value.string)) :
  Calls Tryz.prog 15 #[.agg (o.v (.slice ta o.svc.tags.length tc))] w fun e w' => OppA w (oppF o) (oppE o) e w' := by
 obtain ⟨hn1, hn2, hsv, hck⟩ := hs
 have HSV : Hid (Sp.small o.svc) := hsv
 have HCK : Hid (Ck.small o.chk) := hck
 have HC : Hid (CellsAt w ta (o.svc.tags.map Value.string)) := hc
 clear hsv hck hc
 obtain ⟨ne, Hne⟩ : ∃ ne, Hid (ne = idE o.chk.node o.chk.id) := ⟨_, rfl⟩
 have HE : Hid (oppE o = ne) := by rw [Hid, Hne.out]; unfold oppE; rw [if_neg (by rw [hk]; decide), if_neg (by rw [hk]; decide), if_neg (by rw [hk]; decide), if_neg (by rw [hk]; decide), if_neg (by rw [hk]; decide), if_pos hk]
 have HFy : Hid (ne = 0 → oppF o = ⟨6, nodeZ, svcZ, ⟨labT o.chk.node, labT o.chk.id, ⟨#[]⟩, 0, ⟨#[]⟩, 0, 0⟩, false, 0⟩) := fun h => by unfold oppF; rw [if_pos (HE.out.trans h)]; unfold oppN wantF; rw [if_neg (by rw [hk]; decide), if_neg (by rw [hk]; decide), if_neg (by rw [hk]; decide), if_neg (by rw [hk]; decide), if_neg (by rw [hk]; decide), hk, hcas]; rfl
 have HFn : Hid (¬ ne = 0 → oppF o = oppZ) := fun h => by unfold oppF; rw [if_neg (fun e => h (HE.out.symm.trans e))]
 obtain ⟨g1, Hg1⟩ : ∃ x, Hid (x = threeT o.chk.node o.chk.id xW o.chk.node) := ⟨_, rfl⟩
 obtain ⟨g2, Hg2⟩ : ∃ x, Hid (x = threeT o.chk.node o.chk.id xW o.chk.id) := ⟨_, rfl⟩
 obtain ⟨g9, Hg9⟩ : ∃ x, Hid (x = threeT o.chk.node o.chk.id xW xW) := ⟨_, rfl⟩
 have HCl : Hid (∀ w, Calls Tryz.prog 30 #[.string o.chk.node, .string o.chk.id, .string ⟨#[120]⟩] w fun e w' => e = .returned (.tuple #[.string g1, .string g2, .string g9, .int .i64 ne]) ∧ Below w.heap.size w w') := fun w => by rw [Hg1.out, Hg2.out, Hg9.out, Hne.out, ← three_x]; exact three_calls o.chk.node o.chk.id xW w HCK.out.node HCK.out.id (by decide)
 have HFy : Hid (ne = 0 → oppF o = ⟨6, nodeZ, svcZ, ⟨g1, g2, ⟨#[]⟩, 0, ⟨#[]⟩, 0, 0⟩, false, 0⟩) := fun h => by rw [HFy.out h, Hg1.out, Hg2.out, threeT_x (Hne.out.symm.trans h), threeT_x (Hne.out.symm.trans h)]
 rw [HE.out]
 clear Hne HE Hg1 Hg2 Hg9 HSV HCK HC
 obtain ⟨kd, ⟨nn, na, n3, n4⟩, ⟨sn, si, sm, sp, tg, s6, s7⟩, ⟨cn, ci, cs, ct, ce, c6, c7⟩, cas, wt⟩ := o
 simp only [Opp.v] at *
 subst hk hcas
 generalize tg.length = tl at *
 obtain ⟨b1, b2, b3, b4⟩ := three_new w (.cells (o21 6 nn na n3 n4 sn si sm sp (.slice ta tl tc) s6 s7 cn ci cs ct ce c6 c7 false wt) 47) (.cells z21 47) (.cells (o21 6 ⟨#[]⟩ ⟨#[]⟩ 0 0 ⟨#[]⟩ ⟨#[]⟩ ⟨#[]⟩ 0 (.slice none 0 0) 0 0 ⟨#[]⟩ ⟨#[]⟩ ⟨#[]⟩ 0 ⟨#[]⟩ 0 0 false 0) 47)
 obtain ⟨w3, Hw3⟩ : ∃ w3, Hid (w3 = ((w.alloc (.cells (o21 6 nn na n3 n4 sn si sm sp (.slice ta tl tc) s6 s7 cn ci cs ct ce c6 c7 false wt) 47)).alloc (.cells z21 47)).alloc (.cells (o21 6 ⟨#[]⟩ ⟨#[]⟩ 0 0 ⟨#[]⟩ ⟨#[]⟩ ⟨#[]⟩ 0 (.slice none 0 0) 0 0 ⟨#[]⟩ ⟨#[]⟩ ⟨#[]⟩ 0 ⟨#[]⟩ 0 0 false 0) 47)) := ⟨_, rfl⟩
 have HA3 : Hid (Blk w3 w.heap.size (o21 6 nn na n3 n4 sn si sm sp (.slice ta tl tc) s6 s7 cn ci cs ct ce c6 c7 false wt) 47) := by rw [Hw3.out]; exact b1
 have HR3 : Hid (Blk w3 (w.heap.size + 1) z21 47) := by rw [Hw3.out]; exact b2
 have HF3 : Hid (Blk w3 (w.heap.size + 1 + 1) (o21 6 ⟨#[]⟩ ⟨#[]⟩ 0 0 ⟨#[]⟩ ⟨#[]⟩ ⟨#[]⟩ 0 (.slice none 0 0) 0 0 ⟨#[]⟩ ⟨#[]⟩ ⟨#[]⟩ 0 ⟨#[]⟩ 0 0 false 0) 47) := by rw [Hw3.out]; exact b3
 have HB3 : Hid (Below w.heap.size w w3) := by rw [Hw3.out]; exact b4
 clear b1 b2 b3 b4
 go_enter Tryz.func15, Tryz.ntmps15
 iterate 36 go_step
 refine wp_store_op rfl ?_ rfl rfl rfl rfl (by simp [Value.oneCell']) ?_
 ·simp only [size_new]
 go_wp2_with fail
 rw [← Hw3.out]
 clear Hw3
 refine (HCl.out w3).mono ?_
 rintro e w4 ⟨rfl, hb4⟩
 have HR4 : Hid (Blk w4 (w.heap.size + 1) z21 47) := HR3.out.below hb4
 have HF4 : Hid (Blk w4 (w.heap.size + 1 + 1) (o21 6 ⟨#[]⟩ ⟨#[]⟩ 0 0 ⟨#[]⟩ ⟨#[]⟩ ⟨#[]⟩ 0 (.slice none 0 0) 0 0 ⟨#[]⟩ ⟨#[]⟩ ⟨#[]⟩ 0 ⟨#[]⟩ 0 0 false 0) 47) := HF3.out.below hb4
 have HB4 : Hid (Below w.heap.size w w4) := HB3.out.trans (hb4.mono HB3.out.size)
 have f12 := HF4.out.cell 12 rfl
 have f13 := HF4.out.cell 13 rfl
 have zf := HF4.out.open
 have HR5 : Hid (Blk ((w4.setCell ⟨(w.heap.size + 1 + 1), 12, none⟩ (.string g1)).setCell ⟨(w.heap.size + 1 + 1), 13, none⟩ (.string g2)) (w.heap.size + 1) z21 47) := putC_other (by omega) [.string g1, .string g2] w4 12 HR4.out
 have HF5 : Hid (Blk ((w4.setCell ⟨(w.heap.size + 1 + 1), 12, none⟩ (.string g1)).setCell ⟨(w.heap.size + 1 + 1), 13, none⟩ (.string g2)) (w.heap.size + 1 + 1) (o21 6 ⟨#[]⟩ ⟨#[]⟩ 0 0 ⟨#[]⟩ ⟨#[]⟩ ⟨#[]⟩ 0 (.slice none 0 0) 0 0 g1 g2 ⟨#[]⟩ 0 ⟨#[]⟩ 0 0 false 0) 47) := ((HF4.out).put 12 (.string g1)).put 13 (.string g2)
 have HB5 : Hid (Below w.heap.size w ((w4.setCell ⟨(w.heap.size + 1 + 1), 12, none⟩ (.string g1)).setCell ⟨(w.heap.size + 1 + 1), 13, none⟩ (.string g2))) := putC_below [.string g1, .string g2] w4 12 HB4.out (by omega)
 clear hb4 HA3 HR3 HF3 HB3 HCl HR4 HB4
 clear HF4
 by_cases h0 : ne = 0
 ·have HQ : Hid (_ = (⟨6, nodeZ, svcZ, ⟨g1, g2, ⟨#[]⟩, 0, ⟨#[]⟩, 0, 0⟩, false, 0⟩ : Opp)) := HFy.out h0
  have q : (ne != 0) = false := by simpa using h0
  have H0 : Hid (0 = ne) := h0.symm
  have HF : Hid (OppA w ⟨6, nodeZ, svcZ, ⟨g1, g2, ⟨#[]⟩, 0, ⟨#[]⟩, 0, 0⟩, false, 0⟩ ne (.returned (.tuple #[.agg (o21 6 ⟨#[]⟩ ⟨#[]⟩ 0 0 ⟨#[]⟩ ⟨#[]⟩ ⟨#[]⟩ 0 (.slice none 0 0) 0 0 g1 g2 ⟨#[]⟩ 0 ⟨#[]⟩ 0 0 false 0), .int .i64 0])) (((w4.setCell ⟨(w.heap.size + 1 + 1), 12, none⟩ (.string g1)).setCell ⟨(w.heap.size + 1 + 1), 13, none⟩ (.string g2)).setRow (w.heap.size + 1) (o21 6 ⟨#[]⟩ ⟨#[]⟩ 0 0 ⟨#[]⟩ ⟨#[]⟩ ⟨#[]⟩ 0 (.slice none 0 0) 0 0 g1 g2 ⟨#[]⟩ 0 ⟨#[]⟩ 0 0 false 0))) := ⟨.slice none 0 0, by rw [← H0.out]; rfl, World.ownsRow_nil _ _ _ _, below_setRow HB5.out (by omega) _⟩
  have HLd : Hid ((loadVar 47 ⟨(w.heap.size + 1), 0, none⟩).run Tryz.prog (((w4.setCell ⟨(w.heap.size + 1 + 1), 12, none⟩ (.string g1)).setCell ⟨(w.heap.size + 1 + 1), 13, none⟩ (.string g2)).setRow (w.heap.size + 1) (o21 6 ⟨#[]⟩ ⟨#[]⟩ 0 0 ⟨#[]⟩ ⟨#[]⟩ ⟨#[]⟩ 0 (.slice none 0 0) 0 0 g1 g2 ⟨#[]⟩ 0 ⟨#[]⟩ 0 0 false 0)) = .ok (.agg (o21 6 ⟨#[]⟩ ⟨#[]⟩ 0 0 ⟨#[]⟩ ⟨#[]⟩ ⟨#[]⟩ 0 (.slice none 0 0) 0 0 g1 g2 ⟨#[]⟩ 0 ⟨#[]⟩ 0 0 false 0)) (((w4.setCell ⟨(w.heap.size + 1 + 1), 12, none⟩ (.string g1)).setCell ⟨(w.heap.size + 1 + 1), 13, none⟩ (.string g2)).setRow (w.heap.size + 1) (o21 6 ⟨#[]⟩ ⟨#[]⟩ 0 0 ⟨#[]⟩ ⟨#[]⟩ ⟨#[]⟩ 0 (.slice none 0 0) 0 0 g1 g2 ⟨#[]⟩ 0 ⟨#[]⟩ 0 0 false 0))) := load_op (blk_setRow HR5.out _) rfl
  clear h0 HFy HFn H0 HB5
  go_upto_region 21 with fail
  iterate 2 go_step
  refine wp_get_op rfl HF5.out rfl rfl ?_
  iterate 2 go_step
  refine wp_put_op rfl HR5.out rfl rfl rfl rfl (by simp [Value.oneCell']) ?_
  go_wp2
  rw [HQ.out]
  exact ret_box (g := (w.heap.size + 1)) (w := (((w4.setCell ⟨(w.heap.size + 1 + 1), 12, none⟩ (.string g1)).setCell ⟨(w.heap.size + 1 + 1), 13, none⟩ (.string g2)).setRow (w.heap.size + 1) (o21 6 ⟨#[]⟩ ⟨#[]⟩ 0 0 ⟨#[]⟩ ⟨#[]⟩ ⟨#[]⟩ 0 (.slice none 0 0) 0 0 g1 g2 ⟨#[]⟩ 0 ⟨#[]⟩ 0 0 false 0))) (e := .int .i64 0) rfl rfl rfl rfl HLd.out HF.out
 ·have HQ : Hid (_ = oppZ) := HFn.out h0
  have q : (ne != 0) = true := by simpa using h0
  have HF : Hid (OppA w oppZ ne (.returned (.tuple #[.agg z21, .int .i64 ne])) (((w4.setCell ⟨(w.heap.size + 1 + 1), 12, none⟩ (.string g1)).setCell ⟨(w.heap.size + 1 + 1), 13, none⟩ (.string g2)).setRow (w.heap.size + 1) z21)) := ⟨.slice none 0 0, rfl, World.ownsRow_nil _ _ _ _, below_setRow HB5.out (by omega) _⟩
  have HLd : Hid ((loadVar 47 ⟨(w.heap.size + 1), 0, none⟩).run Tryz.prog (((w4.setCell ⟨(w.heap.size + 1 + 1), 12, none⟩ (.string g1)).setCell ⟨(w.heap.size + 1 + 1), 13, none⟩ (.string g2)).setRow (w.heap.size + 1) z21) = .ok (.agg z21) (((w4.setCell ⟨(w.heap.size + 1 + 1), 12, none⟩ (.string g1)).setCell ⟨(w.heap.size + 1 + 1), 13, none⟩ (.string g2)).setRow (w.heap.size + 1) z21)) := load_op (blk_setRow HR5.out _) rfl
  clear HFy HFn HB5
  go_upto_region 20 with fail
  iterate 8 go_step
  refine wp_put_op rfl HR5.out rfl rfl rfl rfl (by simp [Value.oneCell']) ?_
  go_wp2
  rw [HQ.out]
  exact ret_box (g := (w.heap.size + 1)) (w := (((w4.setCell ⟨(w.heap.size + 1 + 1), 12, none⟩ (.string g1)).setCell ⟨(w.heap.size + 1 + 1), 13, none⟩ (.string g2)).setRow (w.heap.size + 1) z21)) (e := .int .i64 ne) rfl rfl rfl rfl HLd.out HF.out
set_option maxRecDepth 100000 in
set_option maxHeartbeats 8000000 in
theorem fixOpb6_true (o : Opp) (hk : o.kind = 6) (hcas : o.cas = true) (ta : Option Addr) (tc : Nat) (w : World) (hs : o.small) (hna : o.node.addr.size ≤ 1048576) (hc : CellsAt w ta (o.svc.tags.map Value.string)) :
  Calls Tryz.prog 15 #[.agg (o.v (.slice ta o.svc.tags.length tc))] w fun e w' => OppA w (oppF o) (oppE o) e w' := by
 obtain ⟨hn1, hn2, hsv, hck⟩ := hs
 have HSV : Hid (Sp.small o.svc) := hsv
 have HCK : Hid (Ck.small o.chk) := hck
 have HC : Hid (CellsAt w ta (o.svc.tags.map Value.string)) := hc
 clear hsv hck hc
 obtain ⟨ne, Hne⟩ : ∃ ne, Hid (ne = idE o.chk.node o.chk.id) := ⟨_, rfl⟩
 have HE : Hid (oppE o = ne) := by rw [Hid, Hne.out]; unfold oppE; rw [if_neg (by rw [hk]; decide), if_neg (by rw [hk]; decide), if_neg (by rw [hk]; decide), if_neg (by rw [hk]; decide), if_neg (by rw [hk]; decide), if_pos hk]
 have HFy : Hid (ne = 0 → oppF o = ⟨6, nodeZ, svcZ, ⟨labT o.chk.node, labT o.chk.id, ⟨#[]⟩, 0, ⟨#[]⟩, 0, 0⟩, true, o.want⟩) := fun h => by unfold oppF; rw [if_pos (HE.out.trans h)]; unfold oppN wantF; rw [if_neg (by rw [hk]; decide), if_neg (by rw [hk]; decide), if_neg (by rw [hk]; decide), if_neg (by rw [hk]; decide), if_neg (by rw [hk]; decide), hk, hcas]; rfl
 have HFn : Hid (¬ ne = 0 → oppF o = oppZ) := fun h => by unfold oppF; rw [if_neg (fun e => h (HE.out.symm.trans e))]
 obtain ⟨g1, Hg1⟩ : ∃ x, Hid (x = threeT o.chk.node o.chk.id xW o.chk.node) := ⟨_, rfl⟩
 obtain ⟨g2, Hg2⟩ : ∃ x, Hid (x = threeT o.chk.node o.chk.id xW o.chk.id) := ⟨_, rfl⟩
 obtain ⟨g9, Hg9⟩ : ∃ x, Hid (x = threeT o.chk.node o.chk.id xW xW) := ⟨_, rfl⟩
 have HCl : Hid (∀ w, Calls Tryz.prog 30 #[.string o.chk.node, .string o.chk.id, .string ⟨#[120]⟩] w fun e w' => e = .returned (.tuple #[.string g1, .string g2, .string g9, .int .i64 ne]) ∧ Below w.heap.size w w') := fun w => by rw [Hg1.out, Hg2.out, Hg9.out, Hne.out, ← three_x]; exact three_calls o.chk.node o.chk.id xW w HCK.out.node HCK.out.id (by decide)
 have HFy : Hid (ne = 0 → oppF o = ⟨6, nodeZ, svcZ, ⟨g1, g2, ⟨#[]⟩, 0, ⟨#[]⟩, 0, 0⟩, true, o.want⟩) := fun h => by rw [HFy.out h, Hg1.out, Hg2.out, threeT_x (Hne.out.symm.trans h), threeT_x (Hne.out.symm.trans h)]
 rw [HE.out]
 clear Hne HE Hg1 Hg2 Hg9 HSV HCK HC
 obtain ⟨kd, ⟨nn, na, n3, n4⟩, ⟨sn, si, sm, sp, tg, s6, s7⟩, ⟨cn, ci, cs, ct, ce, c6, c7⟩, cas, wt⟩ := o
 simp only [Opp.v] at *
 subst hk hcas
 generalize tg.length = tl at *
 obtain ⟨b1, b2, b3, b4⟩ := three_new w (.cells (o21 6 nn na n3 n4 sn si sm sp (.slice ta tl tc) s6 s7 cn ci cs ct ce c6 c7 true wt) 47) (.cells z21 47) (.cells (o21 6 ⟨#[]⟩ ⟨#[]⟩ 0 0 ⟨#[]⟩ ⟨#[]⟩ ⟨#[]⟩ 0 (.slice none 0 0) 0 0 ⟨#[]⟩ ⟨#[]⟩ ⟨#[]⟩ 0 ⟨#[]⟩ 0 0 true wt) 47)
 obtain ⟨w3, Hw3⟩ : ∃ w3, Hid (w3 = ((w.alloc (.cells (o21 6 nn na n3 n4 sn si sm sp (.slice ta tl tc) s6 s7 cn ci cs ct ce c6 c7 true wt) 47)).alloc (.cells z21 47)).alloc (.cells (o21 6 ⟨#[]⟩ ⟨#[]⟩ 0 0 ⟨#[]⟩ ⟨#[]⟩ ⟨#[]⟩ 0 (.slice none 0 0) 0 0 ⟨#[]⟩ ⟨#[]⟩ ⟨#[]⟩ 0 ⟨#[]⟩ 0 0 true wt) 47)) := ⟨_, rfl⟩
 have HA3 : Hid (Blk w3 w.heap.size (o21 6 nn na n3 n4 sn si sm sp (.slice ta tl tc) s6 s7 cn ci cs ct ce c6 c7 true wt) 47) := by rw [Hw3.out]; exact b1
 have HR3 : Hid (Blk w3 (w.heap.size + 1) z21 47) := by rw [Hw3.out]; exact b2
 have HF3 : Hid (Blk w3 (w.heap.size + 1 + 1) (o21 6 ⟨#[]⟩ ⟨#[]⟩ 0 0 ⟨#[]⟩ ⟨#[]⟩ ⟨#[]⟩ 0 (.slice none 0 0) 0 0 ⟨#[]⟩ ⟨#[]⟩ ⟨#[]⟩ 0 ⟨#[]⟩ 0 0 true wt) 47) := by rw [Hw3.out]; exact b3
 have HB3 : Hid (Below w.heap.size w w3) := by rw [Hw3.out]; exact b4
 clear b1 b2 b3 b4
 go_enter Tryz.func15, Tryz.ntmps15
 iterate 36 go_step
 refine wp_store_op rfl ?_ rfl rfl rfl rfl (by simp [Value.oneCell']) ?_
 ·simp only [size_new]
 go_wp2_with fail
 rw [← Hw3.out]
 clear Hw3
 refine (HCl.out w3).mono ?_
 rintro e w4 ⟨rfl, hb4⟩
 have HR4 : Hid (Blk w4 (w.heap.size + 1) z21 47) := HR3.out.below hb4
 have HF4 : Hid (Blk w4 (w.heap.size + 1 + 1) (o21 6 ⟨#[]⟩ ⟨#[]⟩ 0 0 ⟨#[]⟩ ⟨#[]⟩ ⟨#[]⟩ 0 (.slice none 0 0) 0 0 ⟨#[]⟩ ⟨#[]⟩ ⟨#[]⟩ 0 ⟨#[]⟩ 0 0 true wt) 47) := HF3.out.below hb4
 have HB4 : Hid (Below w.heap.size w w4) := HB3.out.trans (hb4.mono HB3.out.size)
 have f12 := HF4.out.cell 12 rfl
 have f13 := HF4.out.cell 13 rfl
 have zf := HF4.out.open
 have HR5 : Hid (Blk ((w4.setCell ⟨(w.heap.size + 1 + 1), 12, none⟩ (.string g1)).setCell ⟨(w.heap.size + 1 + 1), 13, none⟩ (.string g2)) (w.heap.size + 1) z21 47) := putC_other (by omega) [.string g1, .string g2] w4 12 HR4.out
 have HF5 : Hid (Blk ((w4.setCell ⟨(w.heap.size + 1 + 1), 12, none⟩ (.string g1)).setCell ⟨(w.heap.size + 1 + 1), 13, none⟩ (.string g2)) (w.heap.size + 1 + 1) (o21 6 ⟨#[]⟩ ⟨#[]⟩ 0 0 ⟨#[]⟩ ⟨#[]⟩ ⟨#[]⟩ 0 (.slice none 0 0) 0 0 g1 g2 ⟨#[]⟩ 0 ⟨#[]⟩ 0 0 true wt) 47) := ((HF4.out).put 12 (.string g1)).put 13 (.string g2)
 have HB5 : Hid (Below w.heap.size w ((w4.setCell ⟨(w.heap.size + 1 + 1), 12, none⟩ (.string g1)).setCell ⟨(w.heap.size + 1 + 1), 13, none⟩ (.string g2))) := putC_below [.string g1, .string g2] w4 12 HB4.out (by omega)
 clear hb4 HA3 HR3 HF3 HB3 HCl HR4 HB4
 clear HF4
 by_cases h0 : ne = 0
 ·have HQ : Hid (_ = (⟨6, nodeZ, svcZ, ⟨g1, g2, ⟨#[]⟩, 0, ⟨#[]⟩, 0, 0⟩, true, wt⟩ : Opp)) := HFy.out h0
  have q : (ne != 0) = false := by simpa using h0
  have H0 : Hid (0 = ne) := h0.symm
  have HF : Hid (OppA w ⟨6, nodeZ, svcZ, ⟨g1, g2, ⟨#[]⟩, 0, ⟨#[]⟩, 0, 0⟩, true, wt⟩ ne (.returned (.tuple #[.agg (o21 6 ⟨#[]⟩ ⟨#[]⟩ 0 0 ⟨#[]⟩ ⟨#[]⟩ ⟨#[]⟩ 0 (.slice none 0 0) 0 0 g1 g2 ⟨#[]⟩ 0 ⟨#[]⟩ 0 0 true wt), .int .i64 0])) (((w4.setCell ⟨(w.heap.size + 1 + 1), 12, none⟩ (.string g1)).setCell ⟨(w.heap.size + 1 + 1), 13, none⟩ (.string g2)).setRow (w.heap.size + 1) (o21 6 ⟨#[]⟩ ⟨#[]⟩ 0 0 ⟨#[]⟩ ⟨#[]⟩ ⟨#[]⟩ 0 (.slice none 0 0) 0 0 g1 g2 ⟨#[]⟩ 0 ⟨#[]⟩ 0 0 true wt))) := ⟨.slice none 0 0, by rw [← H0.out]; rfl, World.ownsRow_nil _ _ _ _, below_setRow HB5.out (by omega) _⟩
  have HLd : Hid ((loadVar 47 ⟨(w.heap.size + 1), 0, none⟩).run Tryz.prog (((w4.setCell ⟨(w.heap.size + 1 + 1), 12, none⟩ (.string g1)).setCell ⟨(w.heap.size + 1 + 1), 13, none⟩ (.string g2)).setRow (w.heap.size + 1) (o21 6 ⟨#[]⟩ ⟨#[]⟩ 0 0 ⟨#[]⟩ ⟨#[]⟩ ⟨#[]⟩ 0 (.slice none 0 0) 0 0 g1 g2 ⟨#[]⟩ 0 ⟨#[]⟩ 0 0 true wt)) = .ok (.agg (o21 6 ⟨#[]⟩ ⟨#[]⟩ 0 0 ⟨#[]⟩ ⟨#[]⟩ ⟨#[]⟩ 0 (.slice none 0 0) 0 0 g1 g2 ⟨#[]⟩ 0 ⟨#[]⟩ 0 0 true wt)) (((w4.setCell ⟨(w.heap.size + 1 + 1), 12, none⟩ (.string g1)).setCell ⟨(w.heap.size + 1 + 1), 13, none⟩ (.string g2)).setRow (w.heap.size + 1) (o21 6 ⟨#[]⟩ ⟨#[]⟩ 0 0 ⟨#[]⟩ ⟨#[]⟩ ⟨#[]⟩ 0 (.slice none 0 0) 0 0 g1 g2 ⟨#[]⟩ 0 ⟨#[]⟩ 0 0 true wt))) := load_op (blk_setRow HR5.out _) rfl
  clear h0 HFy HFn H0 HB5
  go_upto_region 21 with fail
  iterate 2 go_step
  refine wp_get_op rfl HF5.out rfl rfl ?_
  iterate 2 go_step
  refine wp_put_op rfl HR5.out rfl rfl rfl rfl (by simp [Value.oneCell']) ?_
  go_wp2
  rw [HQ.out]
  exact ret_box (g := (w.heap.size + 1)) (w := (((w4.setCell ⟨(w.heap.size + 1 + 1), 12, none⟩ (.string g1)).setCell ⟨(w.heap.size + 1 + 1), 13, none⟩ (.string g2)).setRow (w.heap.size + 1) (o21 6 ⟨#[]⟩ ⟨#[]⟩ 0 0 ⟨#[]⟩ ⟨#[]⟩ ⟨#[]⟩ 0 (.slice none 0 0) 0 0 g1 g2 ⟨#[]⟩ 0 ⟨#[]⟩ 0 0 true wt))) (e := .int .i64 0) rfl rfl rfl rfl HLd.out HF.out
 ·have HQ : Hid (_ = oppZ) := HFn.out h0
  have q : (ne != 0) = true := by simpa using h0
  have HF : Hid (OppA w oppZ ne (.returned (.tuple #[.agg z21, .int .i64 ne])) (((w4.setCell ⟨(w.heap.size + 1 + 1), 12, none⟩ (.string g1)).setCell ⟨(w.heap.size + 1 + 1), 13, none⟩ (.string g2)).setRow (w.heap.size + 1) z21)) := ⟨.slice none 0 0, rfl, World.ownsRow_nil _ _ _ _, below_setRow HB5.out (by omega) _⟩
  have HLd : Hid ((loadVar 47 ⟨(w.heap.size + 1), 0, none⟩).run Tryz.prog (((w4.setCell ⟨(w.heap.size + 1 + 1), 12, none⟩ (.string g1)).setCell ⟨(w.heap.size + 1 + 1), 13, none⟩ (.string g2)).setRow (w.heap.size + 1) z21) = .ok (.agg z21) (((w4.setCell ⟨(w.heap.size + 1 + 1), 12, none⟩ (.string g1)).setCell ⟨(w.heap.size + 1 + 1), 13, none⟩ (.string g2)).setRow (w.heap.size + 1) z21)) := load_op (blk_setRow HR5.out _) rfl
  clear HFy HFn HB5
  go_upto_region 20 with fail
  iterate 8 go_step
  refine wp_put_op rfl HR5.out rfl rfl rfl rfl (by simp [Value.oneCell']) ?_
  go_wp2
  rw [HQ.out]
  exact ret_box (g := (w.heap.size + 1)) (w := (((w4.setCell ⟨(w.heap.size + 1 + 1), 12, none⟩ (.string g1)).setCell ⟨(w.heap.size + 1 + 1), 13, none⟩ (.string g2)).setRow (w.heap.size + 1) z21)) (e := .int .i64 ne) rfl rfl rfl rfl HLd.out HF.out
end Go.Proofs.YthgcnmilaifkoaaGreatDoor
