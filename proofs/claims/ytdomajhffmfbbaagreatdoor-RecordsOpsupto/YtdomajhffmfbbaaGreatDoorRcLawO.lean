/- Layer 9 (records): RecordsOps, the walk. -/
import Derived.Test.YtdomajhffmfbbaaGreatDoorRcBox
import Derived.Test.YtdomajhffmfbbaaGreatDoorRwPut
import Derived.Test.YtdomajhffmfbbaaGreatDoorRcSameT
import Derived.Test.YtdomajhffmfbbaaGreatDoorRcCopyO
import Derived.Test.YtdomajhffmfbbaaGreatDoorRcSameO
namespace Go.Proofs.YtdomajhffmfbbaaGreatDoor
open Go.RowKit
set_option linter.unusedVariables false

theorem svcF_lenO (s : Sp) : (svcF s).tags.length ≤ 1048576 := by
  by_cases h : svcE s = 0
  · rw [svc_yes h]
    show (tagsB s.tags).length ≤ _
    rw [tagsB_len]
    have h1 := (svc_parts h).2.2.2
    by_cases hk : tagsOk s.tags
    · rw [(tags_yes hk).2]
      refine Nat.le_trans (compact_le _) ?_
      rw [List.length_mergeSort, List.length_map]
      have := hk.1
      omega
    · rw [(tags_no hk).1] at h1
      cases h1
  · rw [svc_no h]
    decide
theorem oppF_len (o : Opp) : (oppF o).svc.tags.length ≤ 1048576 := by
  unfold oppF
  split
  · unfold oppN
    split
    · exact Nat.zero_le _
    split
    · exact svcF_lenO _
    repeat' split
    all_goals exact Nat.zero_le _
  · exact Nat.zero_le _
theorem v_size (o : Opp) (v : Value) : (o.v v).size = 21 := rfl
theorem v_one (o : Opp) (a : Option Addr) (n c : Nat) : (o.v (.slice a n c)).all (·.oneCell') = true := by simp [Opp.v, Value.oneCell']

theorem wpList_get_op {ops : Array Oper} {rest : List Oper} {op : Oper} {a : Act} {w : World} {g : Nat} {Q : Exit → Act → World → Prop} {x : Operand} {c : Array Value} (hw : Region.wanted op (yielded ops a.tmps) = true) (ho : op.op = .load 48 x) (hb : Blk w g c 48) (hx : a.eval x = .pointer (some ⟨g, 0, none⟩)) (hs : c.size = 21)
    (h : wpList Tryz.prog ops Q rest (a.put op.dst (.agg c)) w) : wpList Tryz.prog ops Q (op :: rest) a w :=
  wpList_step fun K hK => by
    simp only [hw, if_true]
    exact wp_get_op ho hb hx hs (hK _ _ h)

set_option maxRecDepth 100000 in
set_option maxHeartbeats 8000000 in
theorem recordsOps_calls (o : Opp) (ta : Option Addr) (tc : Nat) (w : World) (hv : Vs w) (hs : o.small) (hna : o.node.addr.size ≤ 1048576) (hsl : o.svc.tags.length ≤ 1048576) (ht : CellsAt w ta (o.svc.tags.map Value.string)) :
    Calls Tryz.prog 4 #[.agg (o.v (.slice ta o.svc.tags.length tc))] w fun e w' => e = .returned (.bool true) ∧ Below w.heap.size w w' := by
  have HV : Hid (Vs w) := hv
  have HT : Hid (CellsAt w ta (o.svc.tags.map Value.string)) := ht
  obtain ⟨ne, Hne⟩ : ∃ x, Hid (x = oppE o) := ⟨_, rfl⟩
  obtain ⟨r, Hr⟩ : ∃ x, Hid (x = oppF o) := ⟨_, rfl⟩
  have C1 : Hid (∀ ta tc w, CellsAt w ta (o.svc.tags.map Value.string) → Calls Tryz.prog 14 #[.agg (o.v (.slice ta o.svc.tags.length tc))] w fun e w' => CopO w o e w') := fun ta tc w h => copyOp_calls o ta tc w (by omega) h
  have C2 : Hid (∀ ta tc w, CellsAt w ta (o.svc.tags.map Value.string) → Calls Tryz.prog 15 #[.agg (o.v (.slice ta o.svc.tags.length tc))] w fun e w' => OppA w r ne e w') := fun ta tc w h => by rw [Hr.out, Hne.out]; exact refFixOp_calls o ta tc w hs hna h
  have C3 : Hid (∀ ta tc w, CellsAt w ta (o.svc.tags.map Value.string) → Vs w → Calls Tryz.prog 16 #[.agg (o.v (.slice ta o.svc.tags.length tc))] w fun e w' => OppA w r ne e w') := fun ta tc w h h2 => by rw [Hr.out, Hne.out]; exact fixOp_calls o ta tc w hs h h2
  have C4 : Hid (∀ a b ac bc w, CellsAt w a (r.svc.tags.map Value.string) → CellsAt w b (r.svc.tags.map Value.string) → Calls Tryz.prog 17 #[.agg (r.v (.slice a r.svc.tags.length ac)), .agg (r.v (.slice b r.svc.tags.length bc))] w fun e w' => e = .returned (.bool true) ∧ Below w.heap.size w w') := fun a b ac bc w h1 h2 => sameOp_calls r a b ac bc w (by rw [Hr.out]; have := oppF_len o; omega) h1 h2
  have C5 : Hid (∀ a b ac bc w, CellsAt w a (o.svc.tags.map Value.string) → CellsAt w b (o.svc.tags.map Value.string) → Calls Tryz.prog 17 #[.agg (o.v (.slice a o.svc.tags.length ac)), .agg (o.v (.slice b o.svc.tags.length bc))] w fun e w' => e = .returned (.bool true) ∧ Below w.heap.size w w') := fun a b ac bc w h1 h2 => sameOp_calls o a b ac bc w (by omega) h1 h2
  have HrL : Hid (r.svc.tags.length ≤ 1048576) := by rw [Hid, Hr.out]; exact oppF_len o
  clear Hne Hr hs hv ht hna hsl
  obtain ⟨tl, Htl⟩ : ∃ x, Hid (x = o.svc.tags.length) := ⟨_, rfl⟩
  obtain ⟨fl, Hfl⟩ : ∃ x, Hid (x = r.svc.tags.length) := ⟨_, rfl⟩
  obtain ⟨TL, HTL⟩ : ∃ x, Hid (x = o.svc.tags.map Value.string) := ⟨_, rfl⟩
  obtain ⟨FL, HFL⟩ : ∃ x, Hid (x = r.svc.tags.map Value.string) := ⟨_, rfl⟩
  simp only [CopO, OppA] at *
  rw [← Htl.out] at C1 C2 C3 C5 ⊢
  rw [← Hfl.out] at C2 C3 C4 HrL
  rw [← HTL.out] at C1 C2 C3 C5 HT
  rw [← HFL.out] at C2 C3 C4
  clear Htl Hfl HTL HFL HrL
  have q : (ne == ne) = true := beq_self_eq_true _
  obtain ⟨wx, Hwx⟩ : ∃ x, Hid (x = w.alloc (.cells (o.v (.slice ta tl tc)) 48)) := ⟨_, rfl⟩
  have KA_wx : Hid (Blk wx w.heap.size (o.v (.slice ta tl tc)) 48) := by rw [Hwx.out]; exact Blk.new _ _ _
  have B_wx : Hid (Below w.heap.size w wx) := by rw [Hwx.out]; exact below_new w _
  have hsz : (o.v (.slice ta tl tc)).size = 21 := rfl
  go_enter Tryz.func4, Tryz.ntmps4
  go_wp2_with fail
  rw [← Hwx.out]
  clear Hwx
  refine (recordsFixed_calls wx (HV.out.stay B_wx.out)).mono ?_
  rintro e w1 ⟨rfl, hb⟩
  have KA_w1 : Hid (Blk w1 w.heap.size (o.v (.slice ta tl tc)) 48) := KA_wx.out.below hb
  have B_w1 : Hid (Below w.heap.size w w1) := B_wx.out.trans (hb.mono B_wx.out.size)
  clear hb KA_wx B_wx
  go_upto_region 3 with fail
  iterate 2 go_step
  refine wp_get_op rfl KA_w1.out rfl rfl ?_
  go_wp2_with fail
  refine (C1.out ta tc w1 (HT.out.below B_w1.out)).mono ?_
  rintro e w2 ⟨v, rfl, ho, hb⟩
  obtain ⟨oa, oc, rfl, -⟩ := row_forms ho
  dsimp only
  iterate 5 go_step
  refine wp_store_op rfl rfl rfl rfl rfl rfl (v_one _ _ _ _) ?_
  obtain ⟨w3, Hw3⟩ : ∃ x, Hid (x = w2.alloc (.cells (o.v (.slice oa tl oc)) 48)) := ⟨_, rfl⟩
  have hb3 : Below w1.heap.size w1 w3 := by rw [Hw3.out]; exact hb.alloc hb.size _
  have KA_w3 : Hid (Blk w3 w.heap.size (o.v (.slice ta tl tc)) 48) := KA_w1.out.below hb3
  have B_w3 : Hid (Below w.heap.size w w3) := B_w1.out.trans (hb3.mono B_w1.out.size)
  obtain ⟨p2, Hp2⟩ : ∃ x, Hid (x = w2.heap.size) := ⟨_, rfl⟩
  have KO_w3 : Hid (Blk w3 p2 (o.v (.slice oa tl oc)) 48) := by rw [Hw3.out, Hp2.out]; exact Blk.new _ _ _
  have RO_w3 : Hid (CellsAt w3 oa TL) := by rw [Hw3.out]; exact CellsAt.below (row_cells ho) (below_new w2 _)
  rw [← Hw3.out, ← Hp2.out]
  clear Hw3 Hp2 hb3 hb ho KA_w1 B_w1
  go_upto_region 4 with fail
  iterate 2 go_step
  refine wp_get_op rfl KA_w3.out rfl rfl ?_
  go_wp2_with fail
  refine (C2.out ta tc w3 (HT.out.below B_w3.out)).mono ?_
  rintro e w4 ⟨v, rfl, ho, hb⟩
  obtain ⟨ra, rc, rfl, -⟩ := row_forms ho
  dsimp only
  iterate 14 go_step
  refine wp_store_op rfl rfl rfl rfl rfl rfl (v_one _ _ _ _) ?_
  obtain ⟨w5, Hw5⟩ : ∃ x, Hid (x = w4.alloc (.cells (r.v (.slice ra fl rc)) 48)) := ⟨_, rfl⟩
  have hb5 : Below w3.heap.size w3 w5 := by rw [Hw5.out]; exact hb.alloc hb.size _
  have KA_w5 : Hid (Blk w5 w.heap.size (o.v (.slice ta tl tc)) 48) := KA_w3.out.below hb5
  have KO_w5 : Hid (Blk w5 p2 (o.v (.slice oa tl oc)) 48) := KO_w3.out.below hb5
  have B_w5 : Hid (Below w.heap.size w w5) := B_w3.out.trans (hb5.mono B_w3.out.size)
  have RO_w5 : Hid (CellsAt w5 oa TL) := RO_w3.out.below hb5
  obtain ⟨p4, Hp4⟩ : ∃ x, Hid (x = w4.heap.size) := ⟨_, rfl⟩
  have KR_w5 : Hid (Blk w5 p4 (r.v (.slice ra fl rc)) 48) := by rw [Hw5.out, Hp4.out]; exact Blk.new _ _ _
  have RR_w5 : Hid (CellsAt w5 ra FL) := by rw [Hw5.out]; exact CellsAt.below (row_cells ho) (below_new w4 _)
  rw [← Hw5.out, ← Hp4.out]
  clear Hw5 Hp4 hb5 hb ho KA_w3 KO_w3 RO_w3 B_w3
  go_upto_region 5 with fail
  iterate 2 go_step
  refine wp_get_op rfl KO_w5.out rfl rfl ?_
  go_wp2_with fail
  refine (C3.out oa oc w5 RO_w5.out (HV.out.stay B_w5.out)).mono ?_
  rintro e w6 ⟨v, rfl, ho, hb⟩
  obtain ⟨ga, gc, rfl, -⟩ := row_forms ho
  dsimp only
  iterate 14 go_step
  refine wp_store_op rfl rfl rfl rfl rfl rfl (v_one _ _ _ _) ?_
  obtain ⟨w7, Hw7⟩ : ∃ x, Hid (x = w6.alloc (.cells (r.v (.slice ga fl gc)) 48)) := ⟨_, rfl⟩
  have hb7 : Below w5.heap.size w5 w7 := by rw [Hw7.out]; exact hb.alloc hb.size _
  have KA_w7 : Hid (Blk w7 w.heap.size (o.v (.slice ta tl tc)) 48) := KA_w5.out.below hb7
  have KO_w7 : Hid (Blk w7 p2 (o.v (.slice oa tl oc)) 48) := KO_w5.out.below hb7
  have KR_w7 : Hid (Blk w7 p4 (r.v (.slice ra fl rc)) 48) := KR_w5.out.below hb7
  have B_w7 : Hid (Below w.heap.size w w7) := B_w5.out.trans (hb7.mono B_w5.out.size)
  have RO_w7 : Hid (CellsAt w7 oa TL) := RO_w5.out.below hb7
  have RR_w7 : Hid (CellsAt w7 ra FL) := RR_w5.out.below hb7
  obtain ⟨p6, Hp6⟩ : ∃ x, Hid (x = w6.heap.size) := ⟨_, rfl⟩
  have KG_w7 : Hid (Blk w7 p6 (r.v (.slice ga fl gc)) 48) := by rw [Hw7.out, Hp6.out]; exact Blk.new _ _ _
  have RG_w7 : Hid (CellsAt w7 ga FL) := by rw [Hw7.out]; exact CellsAt.below (row_cells ho) (below_new w6 _)
  rw [← Hw7.out, ← Hp6.out]
  clear Hw7 Hp6 hb7 hb ho KA_w5 KO_w5 KR_w5 B_w5 RO_w5 RR_w5
  go_upto_region 6 with fail
  iterate 2 go_step
  refine wp_get_op rfl KG_w7.out rfl rfl ?_
  iterate 2 go_step
  refine wp_get_op rfl KR_w7.out rfl rfl ?_
  go_wp2_with fail
  refine (C4.out ga ra gc rc w7 RG_w7.out RR_w7.out).mono ?_
  rintro e w8 ⟨rfl, hb⟩
  have KA_w8 : Hid (Blk w8 w.heap.size (o.v (.slice ta tl tc)) 48) := KA_w7.out.below hb
  have KO_w8 : Hid (Blk w8 p2 (o.v (.slice oa tl oc)) 48) := KO_w7.out.below hb
  have B_w8 : Hid (Below w.heap.size w w8) := B_w7.out.trans (hb.mono B_w7.out.size)
  have RO_w8 : Hid (CellsAt w8 oa TL) := RO_w7.out.below hb
  clear hb KA_w7 KO_w7 KR_w7 B_w7 RO_w7 RR_w7 KG_w7 RG_w7
  dsimp only
  iterate 16 go_step
  refine wpList_get_op (by rfl) rfl KO_w8.out rfl rfl ?_
  refine wpList_get_op (by rfl) rfl KA_w8.out rfl rfl ?_
  go_wp2_with fail
  refine (C5.out oa ta oc tc w8 RO_w8.out (HT.out.below B_w8.out)).mono ?_
  rintro e w9 ⟨rfl, hb⟩
  have B_w9 : Hid (Below w.heap.size w w9) := B_w8.out.trans (hb.mono B_w8.out.size)
  clear hb
  go_wp2
  go_ret
  exact ⟨rfl, B_w9.out⟩
end Go.Proofs.YtdomajhffmfbbaaGreatDoor
