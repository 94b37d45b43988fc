/- Layer 9 (records): FixOp, a node dropped. -/
import Derived.Test.YtieonnnlhhdfpaaGreatDoorRcOpL
namespace Go.Proofs.YtieonnnlhhdfpaaGreatDoor
open Go.RowKit
set_option linter.unusedVariables false

set_option maxRecDepth 100000 in
set_option maxHeartbeats 8000000 in
theorem fixOpa4_false (o : Opp) (hk : o.kind = 4) (hcas : o.cas = false) (ta : Option Addr) (tc : Nat) (w : World) (hs : o.small) (hc : CellsAt w ta (o.svc.tags.map Value.string)) (hv : Vs w) :
    Calls Tryz.prog 58 #[.agg (o.v (.slice ta o.svc.tags.length tc))] w fun e w' => OppA w (oppF o) (oppE o) e w' := by
  obtain ⟨hn1, hn2, hsv, hck⟩ := hs
  have HSV : Hid (Sp.small o.svc) := hsv
  have HCK : Hid (Ck.small o.chk) := hck
  have HC : Hid (CellsAt w ta (o.svc.tags.map Value.string)) := hc
  have HV : Hid (Vs w) := hv
  clear hsv hck hc hv
  obtain ⟨ne, Hne⟩ : ∃ ne, Hid (ne = labE o.node.name) := ⟨_, rfl⟩
  have HE : Hid (oppE o = ne) := by rw [Hid, Hne.out]; unfold oppE; rw [if_neg (by rw [hk]; decide), if_neg (by rw [hk]; decide), if_neg (by rw [hk]; decide), if_pos hk]
  have HFy : Hid (ne = 0 → oppF o = ⟨4, ⟨labT o.node.name, ⟨#[]⟩, 0, 0⟩, svcZ, chkZ, false, 0⟩) := fun h => by unfold oppF; rw [if_pos (HE.out.trans h)]; unfold oppN wantF; rw [if_neg (by rw [hk]; decide), if_neg (by rw [hk]; decide), if_neg (by rw [hk]; decide), if_pos hk, hk, hcas]; rfl
  have HFn : Hid (¬ ne = 0 → oppF o = oppZ) := fun h => by unfold oppF; rw [if_neg (fun e => h (HE.out.symm.trans e))]
  obtain ⟨g1, Hg1⟩ : ∃ x, Hid (x = labT o.node.name) := ⟨_, rfl⟩
  have HCl : Hid (∀ w, Calls Tryz.prog 77 #[.string o.node.name] w fun e w' => e = .returned (.tuple #[.string g1, .int .i64 ne]) ∧ Below w.heap.size w w') := fun w => by rw [Hg1.out, Hne.out]; exact label_calls o.node.name w hn1
  rw [← Hg1.out] at HFy
  rw [HE.out]
  clear Hne HE Hg1 HSV HCK HC
  obtain ⟨kd, ⟨nn, na, n3, n4⟩, ⟨sn, si, sm, sp, tg, s6, s7⟩, ⟨cn, ci, cs, ct, ce, c6, c7⟩, cas, wt⟩ := o
  simp only [Opp.v] at *
  subst hk hcas
  generalize tg.length = tl at *
  obtain ⟨b1, b2, b3, b4⟩ := three_new w (.cells #[.int .i64 4, .string nn, .string na, .int .u64 n3, .int .u64 n4, .string sn, .string si, .string sm, .int .i64 sp, .slice ta tl tc, .int .u64 s6, .int .u64 s7, .string cn, .string ci, .string cs, .int .i64 ct, .string ce, .int .u64 c6, .int .u64 c7, .bool false, .int .u64 wt] 58) (.cells #[.int .i64 0, .string ⟨#[]⟩, .string ⟨#[]⟩, .int .u64 0, .int .u64 0, .string ⟨#[]⟩, .string ⟨#[]⟩, .string ⟨#[]⟩, .int .i64 0, .slice none 0 0, .int .u64 0, .int .u64 0, .string ⟨#[]⟩, .string ⟨#[]⟩, .string ⟨#[]⟩, .int .i64 0, .string ⟨#[]⟩, .int .u64 0, .int .u64 0, .bool false, .int .u64 0] 58) (.cells #[.int .i64 4, .string ⟨#[]⟩, .string ⟨#[]⟩, .int .u64 0, .int .u64 0, .string ⟨#[]⟩, .string ⟨#[]⟩, .string ⟨#[]⟩, .int .i64 0, .slice none 0 0, .int .u64 0, .int .u64 0, .string ⟨#[]⟩, .string ⟨#[]⟩, .string ⟨#[]⟩, .int .i64 0, .string ⟨#[]⟩, .int .u64 0, .int .u64 0, .bool false, .int .u64 0] 58)
  obtain ⟨w3, Hw3⟩ : ∃ w3, Hid (w3 = ((w.alloc (.cells #[.int .i64 4, .string nn, .string na, .int .u64 n3, .int .u64 n4, .string sn, .string si, .string sm, .int .i64 sp, .slice ta tl tc, .int .u64 s6, .int .u64 s7, .string cn, .string ci, .string cs, .int .i64 ct, .string ce, .int .u64 c6, .int .u64 c7, .bool false, .int .u64 wt] 58)).alloc (.cells #[.int .i64 0, .string ⟨#[]⟩, .string ⟨#[]⟩, .int .u64 0, .int .u64 0, .string ⟨#[]⟩, .string ⟨#[]⟩, .string ⟨#[]⟩, .int .i64 0, .slice none 0 0, .int .u64 0, .int .u64 0, .string ⟨#[]⟩, .string ⟨#[]⟩, .string ⟨#[]⟩, .int .i64 0, .string ⟨#[]⟩, .int .u64 0, .int .u64 0, .bool false, .int .u64 0] 58)).alloc (.cells #[.int .i64 4, .string ⟨#[]⟩, .string ⟨#[]⟩, .int .u64 0, .int .u64 0, .string ⟨#[]⟩, .string ⟨#[]⟩, .string ⟨#[]⟩, .int .i64 0, .slice none 0 0, .int .u64 0, .int .u64 0, .string ⟨#[]⟩, .string ⟨#[]⟩, .string ⟨#[]⟩, .int .i64 0, .string ⟨#[]⟩, .int .u64 0, .int .u64 0, .bool false, .int .u64 0] 58)) := ⟨_, rfl⟩
  have HA3 : Hid (Blk w3 w.heap.size #[.int .i64 4, .string nn, .string na, .int .u64 n3, .int .u64 n4, .string sn, .string si, .string sm, .int .i64 sp, .slice ta tl tc, .int .u64 s6, .int .u64 s7, .string cn, .string ci, .string cs, .int .i64 ct, .string ce, .int .u64 c6, .int .u64 c7, .bool false, .int .u64 wt] 58) := by rw [Hw3.out]; exact b1
  have HR3 : Hid (Blk w3 (w.heap.size + 1) #[.int .i64 0, .string ⟨#[]⟩, .string ⟨#[]⟩, .int .u64 0, .int .u64 0, .string ⟨#[]⟩, .string ⟨#[]⟩, .string ⟨#[]⟩, .int .i64 0, .slice none 0 0, .int .u64 0, .int .u64 0, .string ⟨#[]⟩, .string ⟨#[]⟩, .string ⟨#[]⟩, .int .i64 0, .string ⟨#[]⟩, .int .u64 0, .int .u64 0, .bool false, .int .u64 0] 58) := by rw [Hw3.out]; exact b2
  have HF3 : Hid (Blk w3 (w.heap.size + 1 + 1) #[.int .i64 4, .string ⟨#[]⟩, .string ⟨#[]⟩, .int .u64 0, .int .u64 0, .string ⟨#[]⟩, .string ⟨#[]⟩, .string ⟨#[]⟩, .int .i64 0, .slice none 0 0, .int .u64 0, .int .u64 0, .string ⟨#[]⟩, .string ⟨#[]⟩, .string ⟨#[]⟩, .int .i64 0, .string ⟨#[]⟩, .int .u64 0, .int .u64 0, .bool false, .int .u64 0] 58) := by rw [Hw3.out]; exact b3
  have HB3 : Hid (Below w.heap.size w w3) := by rw [Hw3.out]; exact b4
  clear b1 b2 b3 b4
  go_enter Tryz.func58, Tryz.ntmps58
  iterate 36 go_step
  refine wp_store_op rfl ?_ rfl rfl rfl rfl (by simp [Value.oneCell']) ?_
  · simp only [size_new]
  go_wp2_with fail
  rw [← Hw3.out]
  clear Hw3
  refine (HCl.out w3).mono ?_
  rintro e w4 ⟨rfl, hb4⟩
  have HR4 : Hid (Blk w4 (w.heap.size + 1) #[.int .i64 0, .string ⟨#[]⟩, .string ⟨#[]⟩, .int .u64 0, .int .u64 0, .string ⟨#[]⟩, .string ⟨#[]⟩, .string ⟨#[]⟩, .int .i64 0, .slice none 0 0, .int .u64 0, .int .u64 0, .string ⟨#[]⟩, .string ⟨#[]⟩, .string ⟨#[]⟩, .int .i64 0, .string ⟨#[]⟩, .int .u64 0, .int .u64 0, .bool false, .int .u64 0] 58) := HR3.out.below hb4
  have HF4 : Hid (Blk w4 (w.heap.size + 1 + 1) #[.int .i64 4, .string ⟨#[]⟩, .string ⟨#[]⟩, .int .u64 0, .int .u64 0, .string ⟨#[]⟩, .string ⟨#[]⟩, .string ⟨#[]⟩, .int .i64 0, .slice none 0 0, .int .u64 0, .int .u64 0, .string ⟨#[]⟩, .string ⟨#[]⟩, .string ⟨#[]⟩, .int .i64 0, .string ⟨#[]⟩, .int .u64 0, .int .u64 0, .bool false, .int .u64 0] 58) := HF3.out.below hb4
  have HB4 : Hid (Below w.heap.size w w4) := HB3.out.trans (hb4.mono HB3.out.size)
  have f1 := HF4.out.cell 1 rfl
  have zf := HF4.out.open
  have HR5 : Hid (Blk (w4.setCell ⟨(w.heap.size + 1 + 1), 1, none⟩ (.string g1)) (w.heap.size + 1) #[.int .i64 0, .string ⟨#[]⟩, .string ⟨#[]⟩, .int .u64 0, .int .u64 0, .string ⟨#[]⟩, .string ⟨#[]⟩, .string ⟨#[]⟩, .int .i64 0, .slice none 0 0, .int .u64 0, .int .u64 0, .string ⟨#[]⟩, .string ⟨#[]⟩, .string ⟨#[]⟩, .int .i64 0, .string ⟨#[]⟩, .int .u64 0, .int .u64 0, .bool false, .int .u64 0] 58) := putC_other (by omega) [.string g1] w4 1 HR4.out
  have HF5 : Hid (Blk (w4.setCell ⟨(w.heap.size + 1 + 1), 1, none⟩ (.string g1)) (w.heap.size + 1 + 1) #[.int .i64 4, .string g1, .string ⟨#[]⟩, .int .u64 0, .int .u64 0, .string ⟨#[]⟩, .string ⟨#[]⟩, .string ⟨#[]⟩, .int .i64 0, .slice none 0 0, .int .u64 0, .int .u64 0, .string ⟨#[]⟩, .string ⟨#[]⟩, .string ⟨#[]⟩, .int .i64 0, .string ⟨#[]⟩, .int .u64 0, .int .u64 0, .bool false, .int .u64 0] 58) := (HF4.out).put 1 (.string g1)
  have HB5 : Hid (Below w.heap.size w (w4.setCell ⟨(w.heap.size + 1 + 1), 1, none⟩ (.string g1))) := putC_below [.string g1] w4 1 HB4.out (by omega)
  clear hb4 HA3 HR3 HF3 HB3 HCl HR4 HB4
  clear HF4
  by_cases h0 : ne = 0
  · have HQ : Hid (_ = (⟨4, ⟨g1, ⟨#[]⟩, 0, 0⟩, svcZ, chkZ, false, 0⟩ : Opp)) := HFy.out h0
    have q : (ne != 0) = false := by simpa using h0
    have H0 : Hid (0 = ne) := h0.symm
    have HF : Hid (OppA w ⟨4, ⟨g1, ⟨#[]⟩, 0, 0⟩, svcZ, chkZ, false, 0⟩ ne (.returned (.tuple #[.agg #[.int .i64 4, .string g1, .string ⟨#[]⟩, .int .u64 0, .int .u64 0, .string ⟨#[]⟩, .string ⟨#[]⟩, .string ⟨#[]⟩, .int .i64 0, .slice none 0 0, .int .u64 0, .int .u64 0, .string ⟨#[]⟩, .string ⟨#[]⟩, .string ⟨#[]⟩, .int .i64 0, .string ⟨#[]⟩, .int .u64 0, .int .u64 0, .bool false, .int .u64 0], .int .i64 0])) ((w4.setCell ⟨(w.heap.size + 1 + 1), 1, none⟩ (.string g1)).setRow (w.heap.size + 1) #[.int .i64 4, .string g1, .string ⟨#[]⟩, .int .u64 0, .int .u64 0, .string ⟨#[]⟩, .string ⟨#[]⟩, .string ⟨#[]⟩, .int .i64 0, .slice none 0 0, .int .u64 0, .int .u64 0, .string ⟨#[]⟩, .string ⟨#[]⟩, .string ⟨#[]⟩, .int .i64 0, .string ⟨#[]⟩, .int .u64 0, .int .u64 0, .bool false, .int .u64 0])) := ⟨.slice none 0 0, by rw [← H0.out]; rfl, World.ownsRow_nil _ _ _ _, below_setRow HB5.out (by omega) _⟩
    have HLd : Hid ((loadVar 58 ⟨(w.heap.size + 1), 0, none⟩).run Tryz.prog ((w4.setCell ⟨(w.heap.size + 1 + 1), 1, none⟩ (.string g1)).setRow (w.heap.size + 1) #[.int .i64 4, .string g1, .string ⟨#[]⟩, .int .u64 0, .int .u64 0, .string ⟨#[]⟩, .string ⟨#[]⟩, .string ⟨#[]⟩, .int .i64 0, .slice none 0 0, .int .u64 0, .int .u64 0, .string ⟨#[]⟩, .string ⟨#[]⟩, .string ⟨#[]⟩, .int .i64 0, .string ⟨#[]⟩, .int .u64 0, .int .u64 0, .bool false, .int .u64 0]) = .ok (.agg #[.int .i64 4, .string g1, .string ⟨#[]⟩, .int .u64 0, .int .u64 0, .string ⟨#[]⟩, .string ⟨#[]⟩, .string ⟨#[]⟩, .int .i64 0, .slice none 0 0, .int .u64 0, .int .u64 0, .string ⟨#[]⟩, .string ⟨#[]⟩, .string ⟨#[]⟩, .int .i64 0, .string ⟨#[]⟩, .int .u64 0, .int .u64 0, .bool false, .int .u64 0]) ((w4.setCell ⟨(w.heap.size + 1 + 1), 1, none⟩ (.string g1)).setRow (w.heap.size + 1) #[.int .i64 4, .string g1, .string ⟨#[]⟩, .int .u64 0, .int .u64 0, .string ⟨#[]⟩, .string ⟨#[]⟩, .string ⟨#[]⟩, .int .i64 0, .slice none 0 0, .int .u64 0, .int .u64 0, .string ⟨#[]⟩, .string ⟨#[]⟩, .string ⟨#[]⟩, .int .i64 0, .string ⟨#[]⟩, .int .u64 0, .int .u64 0, .bool false, .int .u64 0])) := load_op (blk_setRow HR5.out _) rfl
    clear h0 HFy HFn H0 HB5
    go_upto_region 21 with fail
    iterate 2 go_step
    refine wp_get_op rfl HF5.out rfl rfl ?_
    iterate 2 go_step
    refine wp_put_op rfl HR5.out rfl rfl rfl rfl (by simp [Value.oneCell']) ?_
    go_wp2
    rw [HQ.out]
    exact ret_box (g := (w.heap.size + 1)) (w := ((w4.setCell ⟨(w.heap.size + 1 + 1), 1, none⟩ (.string g1)).setRow (w.heap.size + 1) #[.int .i64 4, .string g1, .string ⟨#[]⟩, .int .u64 0, .int .u64 0, .string ⟨#[]⟩, .string ⟨#[]⟩, .string ⟨#[]⟩, .int .i64 0, .slice none 0 0, .int .u64 0, .int .u64 0, .string ⟨#[]⟩, .string ⟨#[]⟩, .string ⟨#[]⟩, .int .i64 0, .string ⟨#[]⟩, .int .u64 0, .int .u64 0, .bool false, .int .u64 0])) (e := .int .i64 0) rfl rfl rfl rfl HLd.out HF.out
  · have HQ : Hid (_ = oppZ) := HFn.out h0
    have q : (ne != 0) = true := by simpa using h0
    have HF : Hid (OppA w oppZ ne (.returned (.tuple #[.agg #[.int .i64 0, .string ⟨#[]⟩, .string ⟨#[]⟩, .int .u64 0, .int .u64 0, .string ⟨#[]⟩, .string ⟨#[]⟩, .string ⟨#[]⟩, .int .i64 0, .slice none 0 0, .int .u64 0, .int .u64 0, .string ⟨#[]⟩, .string ⟨#[]⟩, .string ⟨#[]⟩, .int .i64 0, .string ⟨#[]⟩, .int .u64 0, .int .u64 0, .bool false, .int .u64 0], .int .i64 ne])) ((w4.setCell ⟨(w.heap.size + 1 + 1), 1, none⟩ (.string g1)).setRow (w.heap.size + 1) #[.int .i64 0, .string ⟨#[]⟩, .string ⟨#[]⟩, .int .u64 0, .int .u64 0, .string ⟨#[]⟩, .string ⟨#[]⟩, .string ⟨#[]⟩, .int .i64 0, .slice none 0 0, .int .u64 0, .int .u64 0, .string ⟨#[]⟩, .string ⟨#[]⟩, .string ⟨#[]⟩, .int .i64 0, .string ⟨#[]⟩, .int .u64 0, .int .u64 0, .bool false, .int .u64 0])) := ⟨.slice none 0 0, rfl, World.ownsRow_nil _ _ _ _, below_setRow HB5.out (by omega) _⟩
    have HLd : Hid ((loadVar 58 ⟨(w.heap.size + 1), 0, none⟩).run Tryz.prog ((w4.setCell ⟨(w.heap.size + 1 + 1), 1, none⟩ (.string g1)).setRow (w.heap.size + 1) #[.int .i64 0, .string ⟨#[]⟩, .string ⟨#[]⟩, .int .u64 0, .int .u64 0, .string ⟨#[]⟩, .string ⟨#[]⟩, .string ⟨#[]⟩, .int .i64 0, .slice none 0 0, .int .u64 0, .int .u64 0, .string ⟨#[]⟩, .string ⟨#[]⟩, .string ⟨#[]⟩, .int .i64 0, .string ⟨#[]⟩, .int .u64 0, .int .u64 0, .bool false, .int .u64 0]) = .ok (.agg #[.int .i64 0, .string ⟨#[]⟩, .string ⟨#[]⟩, .int .u64 0, .int .u64 0, .string ⟨#[]⟩, .string ⟨#[]⟩, .string ⟨#[]⟩, .int .i64 0, .slice none 0 0, .int .u64 0, .int .u64 0, .string ⟨#[]⟩, .string ⟨#[]⟩, .string ⟨#[]⟩, .int .i64 0, .string ⟨#[]⟩, .int .u64 0, .int .u64 0, .bool false, .int .u64 0]) ((w4.setCell ⟨(w.heap.size + 1 + 1), 1, none⟩ (.string g1)).setRow (w.heap.size + 1) #[.int .i64 0, .string ⟨#[]⟩, .string ⟨#[]⟩, .int .u64 0, .int .u64 0, .string ⟨#[]⟩, .string ⟨#[]⟩, .string ⟨#[]⟩, .int .i64 0, .slice none 0 0, .int .u64 0, .int .u64 0, .string ⟨#[]⟩, .string ⟨#[]⟩, .string ⟨#[]⟩, .int .i64 0, .string ⟨#[]⟩, .int .u64 0, .int .u64 0, .bool false, .int .u64 0])) := load_op (blk_setRow HR5.out _) rfl
    clear HFy HFn HB5
    go_upto_region 20 with fail
    iterate 8 go_step
    refine wp_put_op rfl HR5.out rfl rfl rfl rfl (by simp [Value.oneCell']) ?_
    go_wp2
    rw [HQ.out]
    exact ret_box (g := (w.heap.size + 1)) (w := ((w4.setCell ⟨(w.heap.size + 1 + 1), 1, none⟩ (.string g1)).setRow (w.heap.size + 1) #[.int .i64 0, .string ⟨#[]⟩, .string ⟨#[]⟩, .int .u64 0, .int .u64 0, .string ⟨#[]⟩, .string ⟨#[]⟩, .string ⟨#[]⟩, .int .i64 0, .slice none 0 0, .int .u64 0, .int .u64 0, .string ⟨#[]⟩, .string ⟨#[]⟩, .string ⟨#[]⟩, .int .i64 0, .string ⟨#[]⟩, .int .u64 0, .int .u64 0, .bool false, .int .u64 0])) (e := .int .i64 ne) rfl rfl rfl rfl HLd.out HF.out
set_option maxRecDepth 100000 in
set_option maxHeartbeats 8000000 in
theorem fixOpa4_true (o : Opp) (hk : o.kind = 4) (hcas : o.cas = true) (ta : Option Addr) (tc : Nat) (w : World) (hs : o.small) (hc : CellsAt w ta (o.svc.tags.map Value.string)) (hv : Vs w) :
    Calls Tryz.prog 58 #[.agg (o.v (.slice ta o.svc.tags.length tc))] w fun e w' => OppA w (oppF o) (oppE o) e w' := by
  obtain ⟨hn1, hn2, hsv, hck⟩ := hs
  have HSV : Hid (Sp.small o.svc) := hsv
  have HCK : Hid (Ck.small o.chk) := hck
  have HC : Hid (CellsAt w ta (o.svc.tags.map Value.string)) := hc
  have HV : Hid (Vs w) := hv
  clear hsv hck hc hv
  obtain ⟨ne, Hne⟩ : ∃ ne, Hid (ne = labE o.node.name) := ⟨_, rfl⟩
  have HE : Hid (oppE o = ne) := by rw [Hid, Hne.out]; unfold oppE; rw [if_neg (by rw [hk]; decide), if_neg (by rw [hk]; decide), if_neg (by rw [hk]; decide), if_pos hk]
  have HFy : Hid (ne = 0 → oppF o = ⟨4, ⟨labT o.node.name, ⟨#[]⟩, 0, 0⟩, svcZ, chkZ, true, o.want⟩) := fun h => by unfold oppF; rw [if_pos (HE.out.trans h)]; unfold oppN wantF; rw [if_neg (by rw [hk]; decide), if_neg (by rw [hk]; decide), if_neg (by rw [hk]; decide), if_pos hk, hk, hcas]; rfl
  have HFn : Hid (¬ ne = 0 → oppF o = oppZ) := fun h => by unfold oppF; rw [if_neg (fun e => h (HE.out.symm.trans e))]
  obtain ⟨g1, Hg1⟩ : ∃ x, Hid (x = labT o.node.name) := ⟨_, rfl⟩
  have HCl : Hid (∀ w, Calls Tryz.prog 77 #[.string o.node.name] w fun e w' => e = .returned (.tuple #[.string g1, .int .i64 ne]) ∧ Below w.heap.size w w') := fun w => by rw [Hg1.out, Hne.out]; exact label_calls o.node.name w hn1
  rw [← Hg1.out] at HFy
  rw [HE.out]
  clear Hne HE Hg1 HSV HCK HC
  obtain ⟨kd, ⟨nn, na, n3, n4⟩, ⟨sn, si, sm, sp, tg, s6, s7⟩, ⟨cn, ci, cs, ct, ce, c6, c7⟩, cas, wt⟩ := o
  simp only [Opp.v] at *
  subst hk hcas
  generalize tg.length = tl at *
  obtain ⟨b1, b2, b3, b4⟩ := three_new w (.cells #[.int .i64 4, .string nn, .string na, .int .u64 n3, .int .u64 n4, .string sn, .string si, .string sm, .int .i64 sp, .slice ta tl tc, .int .u64 s6, .int .u64 s7, .string cn, .string ci, .string cs, .int .i64 ct, .string ce, .int .u64 c6, .int .u64 c7, .bool true, .int .u64 wt] 58) (.cells #[.int .i64 0, .string ⟨#[]⟩, .string ⟨#[]⟩, .int .u64 0, .int .u64 0, .string ⟨#[]⟩, .string ⟨#[]⟩, .string ⟨#[]⟩, .int .i64 0, .slice none 0 0, .int .u64 0, .int .u64 0, .string ⟨#[]⟩, .string ⟨#[]⟩, .string ⟨#[]⟩, .int .i64 0, .string ⟨#[]⟩, .int .u64 0, .int .u64 0, .bool false, .int .u64 0] 58) (.cells #[.int .i64 4, .string ⟨#[]⟩, .string ⟨#[]⟩, .int .u64 0, .int .u64 0, .string ⟨#[]⟩, .string ⟨#[]⟩, .string ⟨#[]⟩, .int .i64 0, .slice none 0 0, .int .u64 0, .int .u64 0, .string ⟨#[]⟩, .string ⟨#[]⟩, .string ⟨#[]⟩, .int .i64 0, .string ⟨#[]⟩, .int .u64 0, .int .u64 0, .bool true, .int .u64 wt] 58)
  obtain ⟨w3, Hw3⟩ : ∃ w3, Hid (w3 = ((w.alloc (.cells #[.int .i64 4, .string nn, .string na, .int .u64 n3, .int .u64 n4, .string sn, .string si, .string sm, .int .i64 sp, .slice ta tl tc, .int .u64 s6, .int .u64 s7, .string cn, .string ci, .string cs, .int .i64 ct, .string ce, .int .u64 c6, .int .u64 c7, .bool true, .int .u64 wt] 58)).alloc (.cells #[.int .i64 0, .string ⟨#[]⟩, .string ⟨#[]⟩, .int .u64 0, .int .u64 0, .string ⟨#[]⟩, .string ⟨#[]⟩, .string ⟨#[]⟩, .int .i64 0, .slice none 0 0, .int .u64 0, .int .u64 0, .string ⟨#[]⟩, .string ⟨#[]⟩, .string ⟨#[]⟩, .int .i64 0, .string ⟨#[]⟩, .int .u64 0, .int .u64 0, .bool false, .int .u64 0] 58)).alloc (.cells #[.int .i64 4, .string ⟨#[]⟩, .string ⟨#[]⟩, .int .u64 0, .int .u64 0, .string ⟨#[]⟩, .string ⟨#[]⟩, .string ⟨#[]⟩, .int .i64 0, .slice none 0 0, .int .u64 0, .int .u64 0, .string ⟨#[]⟩, .string ⟨#[]⟩, .string ⟨#[]⟩, .int .i64 0, .string ⟨#[]⟩, .int .u64 0, .int .u64 0, .bool true, .int .u64 wt] 58)) := ⟨_, rfl⟩
  have HA3 : Hid (Blk w3 w.heap.size #[.int .i64 4, .string nn, .string na, .int .u64 n3, .int .u64 n4, .string sn, .string si, .string sm, .int .i64 sp, .slice ta tl tc, .int .u64 s6, .int .u64 s7, .string cn, .string ci, .string cs, .int .i64 ct, .string ce, .int .u64 c6, .int .u64 c7, .bool true, .int .u64 wt] 58) := by rw [Hw3.out]; exact b1
  have HR3 : Hid (Blk w3 (w.heap.size + 1) #[.int .i64 0, .string ⟨#[]⟩, .string ⟨#[]⟩, .int .u64 0, .int .u64 0, .string ⟨#[]⟩, .string ⟨#[]⟩, .string ⟨#[]⟩, .int .i64 0, .slice none 0 0, .int .u64 0, .int .u64 0, .string ⟨#[]⟩, .string ⟨#[]⟩, .string ⟨#[]⟩, .int .i64 0, .string ⟨#[]⟩, .int .u64 0, .int .u64 0, .bool false, .int .u64 0] 58) := by rw [Hw3.out]; exact b2
  have HF3 : Hid (Blk w3 (w.heap.size + 1 + 1) #[.int .i64 4, .string ⟨#[]⟩, .string ⟨#[]⟩, .int .u64 0, .int .u64 0, .string ⟨#[]⟩, .string ⟨#[]⟩, .string ⟨#[]⟩, .int .i64 0, .slice none 0 0, .int .u64 0, .int .u64 0, .string ⟨#[]⟩, .string ⟨#[]⟩, .string ⟨#[]⟩, .int .i64 0, .string ⟨#[]⟩, .int .u64 0, .int .u64 0, .bool true, .int .u64 wt] 58) := by rw [Hw3.out]; exact b3
  have HB3 : Hid (Below w.heap.size w w3) := by rw [Hw3.out]; exact b4
  clear b1 b2 b3 b4
  go_enter Tryz.func58, Tryz.ntmps58
  iterate 36 go_step
  refine wp_store_op rfl ?_ rfl rfl rfl rfl (by simp [Value.oneCell']) ?_
  · simp only [size_new]
  go_wp2_with fail
  rw [← Hw3.out]
  clear Hw3
  refine (HCl.out w3).mono ?_
  rintro e w4 ⟨rfl, hb4⟩
  have HR4 : Hid (Blk w4 (w.heap.size + 1) #[.int .i64 0, .string ⟨#[]⟩, .string ⟨#[]⟩, .int .u64 0, .int .u64 0, .string ⟨#[]⟩, .string ⟨#[]⟩, .string ⟨#[]⟩, .int .i64 0, .slice none 0 0, .int .u64 0, .int .u64 0, .string ⟨#[]⟩, .string ⟨#[]⟩, .string ⟨#[]⟩, .int .i64 0, .string ⟨#[]⟩, .int .u64 0, .int .u64 0, .bool false, .int .u64 0] 58) := HR3.out.below hb4
  have HF4 : Hid (Blk w4 (w.heap.size + 1 + 1) #[.int .i64 4, .string ⟨#[]⟩, .string ⟨#[]⟩, .int .u64 0, .int .u64 0, .string ⟨#[]⟩, .string ⟨#[]⟩, .string ⟨#[]⟩, .int .i64 0, .slice none 0 0, .int .u64 0, .int .u64 0, .string ⟨#[]⟩, .string ⟨#[]⟩, .string ⟨#[]⟩, .int .i64 0, .string ⟨#[]⟩, .int .u64 0, .int .u64 0, .bool true, .int .u64 wt] 58) := HF3.out.below hb4
  have HB4 : Hid (Below w.heap.size w w4) := HB3.out.trans (hb4.mono HB3.out.size)
  have f1 := HF4.out.cell 1 rfl
  have zf := HF4.out.open
  have HR5 : Hid (Blk (w4.setCell ⟨(w.heap.size + 1 + 1), 1, none⟩ (.string g1)) (w.heap.size + 1) #[.int .i64 0, .string ⟨#[]⟩, .string ⟨#[]⟩, .int .u64 0, .int .u64 0, .string ⟨#[]⟩, .string ⟨#[]⟩, .string ⟨#[]⟩, .int .i64 0, .slice none 0 0, .int .u64 0, .int .u64 0, .string ⟨#[]⟩, .string ⟨#[]⟩, .string ⟨#[]⟩, .int .i64 0, .string ⟨#[]⟩, .int .u64 0, .int .u64 0, .bool false, .int .u64 0] 58) := putC_other (by omega) [.string g1] w4 1 HR4.out
  have HF5 : Hid (Blk (w4.setCell ⟨(w.heap.size + 1 + 1), 1, none⟩ (.string g1)) (w.heap.size + 1 + 1) #[.int .i64 4, .string g1, .string ⟨#[]⟩, .int .u64 0, .int .u64 0, .string ⟨#[]⟩, .string ⟨#[]⟩, .string ⟨#[]⟩, .int .i64 0, .slice none 0 0, .int .u64 0, .int .u64 0, .string ⟨#[]⟩, .string ⟨#[]⟩, .string ⟨#[]⟩, .int .i64 0, .string ⟨#[]⟩, .int .u64 0, .int .u64 0, .bool true, .int .u64 wt] 58) := (HF4.out).put 1 (.string g1)
  have HB5 : Hid (Below w.heap.size w (w4.setCell ⟨(w.heap.size + 1 + 1), 1, none⟩ (.string g1))) := putC_below [.string g1] w4 1 HB4.out (by omega)
  clear hb4 HA3 HR3 HF3 HB3 HCl HR4 HB4
  clear HF4
  by_cases h0 : ne = 0
  · have HQ : Hid (_ = (⟨4, ⟨g1, ⟨#[]⟩, 0, 0⟩, svcZ, chkZ, true, wt⟩ : Opp)) := HFy.out h0
    have q : (ne != 0) = false := by simpa using h0
    have H0 : Hid (0 = ne) := h0.symm
    have HF : Hid (OppA w ⟨4, ⟨g1, ⟨#[]⟩, 0, 0⟩, svcZ, chkZ, true, wt⟩ ne (.returned (.tuple #[.agg #[.int .i64 4, .string g1, .string ⟨#[]⟩, .int .u64 0, .int .u64 0, .string ⟨#[]⟩, .string ⟨#[]⟩, .string ⟨#[]⟩, .int .i64 0, .slice none 0 0, .int .u64 0, .int .u64 0, .string ⟨#[]⟩, .string ⟨#[]⟩, .string ⟨#[]⟩, .int .i64 0, .string ⟨#[]⟩, .int .u64 0, .int .u64 0, .bool true, .int .u64 wt], .int .i64 0])) ((w4.setCell ⟨(w.heap.size + 1 + 1), 1, none⟩ (.string g1)).setRow (w.heap.size + 1) #[.int .i64 4, .string g1, .string ⟨#[]⟩, .int .u64 0, .int .u64 0, .string ⟨#[]⟩, .string ⟨#[]⟩, .string ⟨#[]⟩, .int .i64 0, .slice none 0 0, .int .u64 0, .int .u64 0, .string ⟨#[]⟩, .string ⟨#[]⟩, .string ⟨#[]⟩, .int .i64 0, .string ⟨#[]⟩, .int .u64 0, .int .u64 0, .bool true, .int .u64 wt])) := ⟨.slice none 0 0, by rw [← H0.out]; rfl, World.ownsRow_nil _ _ _ _, below_setRow HB5.out (by omega) _⟩
    have HLd : Hid ((loadVar 58 ⟨(w.heap.size + 1), 0, none⟩).run Tryz.prog ((w4.setCell ⟨(w.heap.size + 1 + 1), 1, none⟩ (.string g1)).setRow (w.heap.size + 1) #[.int .i64 4, .string g1, .string ⟨#[]⟩, .int .u64 0, .int .u64 0, .string ⟨#[]⟩, .string ⟨#[]⟩, .string ⟨#[]⟩, .int .i64 0, .slice none 0 0, .int .u64 0, .int .u64 0, .string ⟨#[]⟩, .string ⟨#[]⟩, .string ⟨#[]⟩, .int .i64 0, .string ⟨#[]⟩, .int .u64 0, .int .u64 0, .bool true, .int .u64 wt]) = .ok (.agg #[.int .i64 4, .string g1, .string ⟨#[]⟩, .int .u64 0, .int .u64 0, .string ⟨#[]⟩, .string ⟨#[]⟩, .string ⟨#[]⟩, .int .i64 0, .slice none 0 0, .int .u64 0, .int .u64 0, .string ⟨#[]⟩, .string ⟨#[]⟩, .string ⟨#[]⟩, .int .i64 0, .string ⟨#[]⟩, .int .u64 0, .int .u64 0, .bool true, .int .u64 wt]) ((w4.setCell ⟨(w.heap.size + 1 + 1), 1, none⟩ (.string g1)).setRow (w.heap.size + 1) #[.int .i64 4, .string g1, .string ⟨#[]⟩, .int .u64 0, .int .u64 0, .string ⟨#[]⟩, .string ⟨#[]⟩, .string ⟨#[]⟩, .int .i64 0, .slice none 0 0, .int .u64 0, .int .u64 0, .string ⟨#[]⟩, .string ⟨#[]⟩, .string ⟨#[]⟩, .int .i64 0, .string ⟨#[]⟩, .int .u64 0, .int .u64 0, .bool true, .int .u64 wt])) := load_op (blk_setRow HR5.out _) rfl
    clear h0 HFy HFn H0 HB5
    go_upto_region 21 with fail
    iterate 2 go_step
    refine wp_get_op rfl HF5.out rfl rfl ?_
    iterate 2 go_step
    refine wp_put_op rfl HR5.out rfl rfl rfl rfl (by simp [Value.oneCell']) ?_
    go_wp2
    rw [HQ.out]
    exact ret_box (g := (w.heap.size + 1)) (w := ((w4.setCell ⟨(w.heap.size + 1 + 1), 1, none⟩ (.string g1)).setRow (w.heap.size + 1) #[.int .i64 4, .string g1, .string ⟨#[]⟩, .int .u64 0, .int .u64 0, .string ⟨#[]⟩, .string ⟨#[]⟩, .string ⟨#[]⟩, .int .i64 0, .slice none 0 0, .int .u64 0, .int .u64 0, .string ⟨#[]⟩, .string ⟨#[]⟩, .string ⟨#[]⟩, .int .i64 0, .string ⟨#[]⟩, .int .u64 0, .int .u64 0, .bool true, .int .u64 wt])) (e := .int .i64 0) rfl rfl rfl rfl HLd.out HF.out
  · have HQ : Hid (_ = oppZ) := HFn.out h0
    have q : (ne != 0) = true := by simpa using h0
    have HF : Hid (OppA w oppZ ne (.returned (.tuple #[.agg #[.int .i64 0, .string ⟨#[]⟩, .string ⟨#[]⟩, .int .u64 0, .int .u64 0, .string ⟨#[]⟩, .string ⟨#[]⟩, .string ⟨#[]⟩, .int .i64 0, .slice none 0 0, .int .u64 0, .int .u64 0, .string ⟨#[]⟩, .string ⟨#[]⟩, .string ⟨#[]⟩, .int .i64 0, .string ⟨#[]⟩, .int .u64 0, .int .u64 0, .bool false, .int .u64 0], .int .i64 ne])) ((w4.setCell ⟨(w.heap.size + 1 + 1), 1, none⟩ (.string g1)).setRow (w.heap.size + 1) #[.int .i64 0, .string ⟨#[]⟩, .string ⟨#[]⟩, .int .u64 0, .int .u64 0, .string ⟨#[]⟩, .string ⟨#[]⟩, .string ⟨#[]⟩, .int .i64 0, .slice none 0 0, .int .u64 0, .int .u64 0, .string ⟨#[]⟩, .string ⟨#[]⟩, .string ⟨#[]⟩, .int .i64 0, .string ⟨#[]⟩, .int .u64 0, .int .u64 0, .bool false, .int .u64 0])) := ⟨.slice none 0 0, rfl, World.ownsRow_nil _ _ _ _, below_setRow HB5.out (by omega) _⟩
    have HLd : Hid ((loadVar 58 ⟨(w.heap.size + 1), 0, none⟩).run Tryz.prog ((w4.setCell ⟨(w.heap.size + 1 + 1), 1, none⟩ (.string g1)).setRow (w.heap.size + 1) #[.int .i64 0, .string ⟨#[]⟩, .string ⟨#[]⟩, .int .u64 0, .int .u64 0, .string ⟨#[]⟩, .string ⟨#[]⟩, .string ⟨#[]⟩, .int .i64 0, .slice none 0 0, .int .u64 0, .int .u64 0, .string ⟨#[]⟩, .string ⟨#[]⟩, .string ⟨#[]⟩, .int .i64 0, .string ⟨#[]⟩, .int .u64 0, .int .u64 0, .bool false, .int .u64 0]) = .ok (.agg #[.int .i64 0, .string ⟨#[]⟩, .string ⟨#[]⟩, .int .u64 0, .int .u64 0, .string ⟨#[]⟩, .string ⟨#[]⟩, .string ⟨#[]⟩, .int .i64 0, .slice none 0 0, .int .u64 0, .int .u64 0, .string ⟨#[]⟩, .string ⟨#[]⟩, .string ⟨#[]⟩, .int .i64 0, .string ⟨#[]⟩, .int .u64 0, .int .u64 0, .bool false, .int .u64 0]) ((w4.setCell ⟨(w.heap.size + 1 + 1), 1, none⟩ (.string g1)).setRow (w.heap.size + 1) #[.int .i64 0, .string ⟨#[]⟩, .string ⟨#[]⟩, .int .u64 0, .int .u64 0, .string ⟨#[]⟩, .string ⟨#[]⟩, .string ⟨#[]⟩, .int .i64 0, .slice none 0 0, .int .u64 0, .int .u64 0, .string ⟨#[]⟩, .string ⟨#[]⟩, .string ⟨#[]⟩, .int .i64 0, .string ⟨#[]⟩, .int .u64 0, .int .u64 0, .bool false, .int .u64 0])) := load_op (blk_setRow HR5.out _) rfl
    clear HFy HFn HB5
    go_upto_region 20 with fail
    iterate 8 go_step
    refine wp_put_op rfl HR5.out rfl rfl rfl rfl (by simp [Value.oneCell']) ?_
    go_wp2
    rw [HQ.out]
    exact ret_box (g := (w.heap.size + 1)) (w := ((w4.setCell ⟨(w.heap.size + 1 + 1), 1, none⟩ (.string g1)).setRow (w.heap.size + 1) #[.int .i64 0, .string ⟨#[]⟩, .string ⟨#[]⟩, .int .u64 0, .int .u64 0, .string ⟨#[]⟩, .string ⟨#[]⟩, .string ⟨#[]⟩, .int .i64 0, .slice none 0 0, .int .u64 0, .int .u64 0, .string ⟨#[]⟩, .string ⟨#[]⟩, .string ⟨#[]⟩, .int .i64 0, .string ⟨#[]⟩, .int .u64 0, .int .u64 0, .bool false, .int .u64 0])) (e := .int .i64 ne) rfl rfl rfl rfl HLd.out HF.out
end Go.Proofs.YtieonnnlhhdfpaaGreatDoor
