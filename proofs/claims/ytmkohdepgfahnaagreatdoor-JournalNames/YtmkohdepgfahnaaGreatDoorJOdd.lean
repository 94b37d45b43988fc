/- Layer 13 (journal): isOdd. -/
import Derived.Test.YtmkohdepgfahnaaGreatDoorJEqO
import Derived.Test.YtmkohdepgfahnaaGreatDoorJOps
import Derived.Test.YtmkohdepgfahnaaGreatDoorRcNormO
import Derived.Test.YtmkohdepgfahnaaGreatDoorRcOpC
namespace Go.Proofs.YtmkohdepgfahnaaGreatDoor
open Go.RowKit
set_option linter.unusedVariables false

set_option maxRecDepth 100000 in
set_option maxHeartbeats 8000000 in
theorem isOdd_calls (x : OV) (w : World) (hv : Vs w) (hs : x.o.small) (hl : x.o.svc.tags.length ≤ 140737488355328) (ht : CellsAt w x.ta (x.o.svc.tags.map Value.string)) :
    Calls Tryz.prog 36 #[.agg x.v] w fun e w' => e = .returned (.bool (!sndB x.o)) ∧ Below w.heap.size w w' := by
  obtain ⟨o, ta, tc⟩ := x
  have HV : Hid (Vs w) := hv
  have HT : Hid (CellsAt w ta (o.svc.tags.map Value.string)) := ht
  obtain ⟨ne, Hne⟩ : ∃ x, Hid (x = oppE o) := ⟨_, rfl⟩
  obtain ⟨r, Hr⟩ : ∃ x, Hid (x = oppF o) := ⟨_, rfl⟩
  obtain ⟨R, HR⟩ : ∃ x, Hid (x = !sndB o) := ⟨_, rfl⟩
  obtain ⟨D, HD⟩ : ∃ x, Hid (x = sameO o r) := ⟨_, rfl⟩
  have C3 : Hid (∀ ta tc w, CellsAt w ta (o.svc.tags.map Value.string) → Vs w → Calls Tryz.prog 52 #[.agg (o.v (.slice ta o.svc.tags.length tc))] w fun e w' => OppA w r ne e w') := fun ta tc w h h2 => by rw [Hr.out, Hne.out]; exact fixOp_calls o ta tc w hs h h2
  have C4 : Hid (∀ a b ac bc w, CellsAt w a (o.svc.tags.map Value.string) → CellsAt w b (r.svc.tags.map Value.string) → Calls Tryz.prog 53 #[.agg (o.v (.slice a o.svc.tags.length ac)), .agg (r.v (.slice b r.svc.tags.length bc))] w fun e w' => e = .returned (.bool D) ∧ Below w.heap.size w w') := fun a b ac bc w h1 h2 => by rw [HD.out]; exact jsameOp_calls o r a b ac bc w hl (by rw [Hr.out]; have := oppF_lenN o; omega) h1 h2
  have HRE : Hid (R = if ne = 0 then !D else true) := by
    show _ = _
    rw [HR.out, HD.out, Hne.out, Hr.out]
    unfold sndB
    by_cases h : oppE o = 0 <;> simp [h]
  clear Hne Hr HD hs hv ht hl
  simp only [OV.v]
  rw [← HR.out]
  clear HR
  obtain ⟨tl, Htl⟩ : ∃ x, Hid (x = o.svc.tags.length) := ⟨_, rfl⟩
  obtain ⟨fl, Hfl⟩ : ∃ x, Hid (x = r.svc.tags.length) := ⟨_, rfl⟩
  obtain ⟨TL, HTL⟩ : ∃ x, Hid (x = o.svc.tags.map Value.string) := ⟨_, rfl⟩
  obtain ⟨FL, HFL⟩ : ∃ x, Hid (x = r.svc.tags.map Value.string) := ⟨_, rfl⟩
  simp only [OppA] at *
  rw [← Htl.out] at C3 C4 ⊢
  rw [← Hfl.out] at C3 C4
  rw [← HTL.out] at C3 C4 HT
  rw [← HFL.out] at C3 C4
  clear Htl Hfl HTL HFL
  obtain ⟨wx, Hwx⟩ : ∃ x, Hid (x = w.alloc (.cells (o.v (.slice ta tl tc)) 55)) := ⟨_, rfl⟩
  have KA_wx : Hid (Blk wx w.heap.size (o.v (.slice ta tl tc)) 55) := by rw [Hwx.out]; exact Blk.new _ _ _
  have B_wx : Hid (Below w.heap.size w wx) := by rw [Hwx.out]; exact below_new w _
  go_enter Tryz.func36, Tryz.ntmps36
  go_upto_region 1 with fail
  rw [← Hwx.out]
  clear Hwx
  iterate 2 go_step
  refine wp_get_op rfl KA_wx.out rfl rfl ?_
  go_wp2_with fail
  refine (C3.out ta tc wx (HT.out.below B_wx.out) (HV.out.stay B_wx.out)).mono ?_
  rintro e w4 ⟨v, rfl, ho, hb⟩
  obtain ⟨ra, rc, rfl, -⟩ := row_forms ho
  dsimp only
  iterate 14 go_step
  refine wp_store_op rfl rfl rfl rfl rfl rfl (v_oneN _ _ _ _) ?_
  obtain ⟨w5, Hw5⟩ : ∃ x, Hid (x = w4.alloc (.cells (r.v (.slice ra fl rc)) 55)) := ⟨_, rfl⟩
  have hb5 : Below wx.heap.size wx w5 := by rw [Hw5.out]; exact hb.alloc hb.size _
  have KA_w5 : Hid (Blk w5 w.heap.size (o.v (.slice ta tl tc)) 55) := KA_wx.out.below hb5
  have B_w5 : Hid (Below w.heap.size w w5) := B_wx.out.trans (hb5.mono B_wx.out.size)
  obtain ⟨p4, Hp4⟩ : ∃ x, Hid (x = w4.heap.size) := ⟨_, rfl⟩
  have KR_w5 : Hid (Blk w5 p4 (r.v (.slice ra fl rc)) 55) := by rw [Hw5.out, Hp4.out]; exact Blk.new _ _ _
  have RR_w5 : Hid (CellsAt w5 ra FL) := by rw [Hw5.out]; exact CellsAt.below (row_cells ho) (below_new w4 _)
  rw [← Hw5.out, ← Hp4.out]
  clear Hw5 Hp4 hb5 hb ho KA_wx B_wx
  by_cases h0 : ne = 0
  · have HF : Hid (R = !D) := by show _ = _; rw [HRE.out, if_pos h0]
    clear HRE
    subst h0
    go_upto_region 2 with fail
    iterate 10 go_step
    refine wpList_get_opN (by rfl) rfl KA_w5.out rfl rfl ?_
    refine wpList_get_opN (by rfl) rfl KR_w5.out rfl rfl ?_
    go_wp2_with fail
    refine (C4.out ta ra tc rc w5 (HT.out.below B_w5.out) RR_w5.out).mono ?_
    rintro e w6 ⟨rfl, hb6⟩
    have B_w6 : Hid (Below w.heap.size w w6) := B_w5.out.trans (hb6.mono B_w5.out.size)
    clear hb6 B_w5 KA_w5 KR_w5 RR_w5
    go_wp2
    go_ret
    exact ⟨by rw [HF.out]; rfl, B_w6.out⟩
  · have HF : Hid (R = true) := by show _ = _; rw [HRE.out, if_neg h0]
    have q : (ne != 0) = true := by simpa using h0
    clear HRE h0
    go_wp2
    go_ret
    exact ⟨by rw [HF.out]; rfl, B_w5.out⟩
end Go.Proofs.YtmkohdepgfahnaaGreatDoor
