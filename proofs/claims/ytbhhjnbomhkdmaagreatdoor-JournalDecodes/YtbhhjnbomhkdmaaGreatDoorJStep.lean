import Derived.Test.YtbhhjnbomhkdmaaGreatDoorRcCopyS
import Derived.Test.YtbhhjnbomhkdmaaGreatDoorRcOa1
import Derived.Test.YtbhhjnbomhkdmaaGreatDoorRcOa2
import Derived.Test.YtbhhjnbomhkdmaaGreatDoorRcOa4
import Derived.Test.YtbhhjnbomhkdmaaGreatDoorRcOa6
import Derived.Test.YtbhhjnbomhkdmaaGreatDoorJEqN
import Derived.Test.YtbhhjnbomhkdmaaGreatDoorJPayOf
import Derived.Deep.RegionHeldLaw
/- Layer 9 (records): FixOp, none of the six. -/
namespace Go.Proofs.YtbhhjnbomhkdmaaGreatDoor
open Go.RowKit
set_option linter.unusedVariables false

set_option maxRecDepth 100000 in
set_option maxHeartbeats 8000000 in
theorem fixOpa7_false (o : Opp) (hk : ¬ o.kind = 1 ∧ ¬ o.kind = 2 ∧ ¬ o.kind = 3 ∧ ¬ o.kind = 4 ∧ ¬ o.kind = 5 ∧ ¬ o.kind = 6) (hcas : o.cas = false) (ta : Option Addr) (tc : Nat) (w : World) (hs : o.small) (hc : CellsAt w ta (o.svc.tags.map Value.string)) (hv : Vs w) :
  Calls Tryz.prog 66 #[.agg (o.v (.slice ta o.svc.tags.length tc))] w fun e w' => OppA w (oppF o) (oppE o) e w' := by
 obtain ⟨hn1, hn2, hsv, hck⟩ := hs
 have HSV : Hid (Sp.small o.svc) := hsv
 have HCK : Hid (Ck.small o.chk) := hck
 have HC : Hid (CellsAt w ta (o.svc.tags.map Value.string)) := hc
 have HV : Hid (Vs w) := hv
 clear hsv hck hc hv
 obtain ⟨hk1, hk2, hk3, hk4, hk5, hk6⟩ := hk
 have HE : Hid (oppE o = 96) := by unfold oppE; rw [Hid, if_neg hk1, if_neg hk2, if_neg hk3, if_neg hk4, if_neg hk5, if_neg hk6]
 have HFn : Hid (oppF o = oppZ) := by unfold oppF; rw [Hid, if_neg (fun e => by rw [HE.out] at e; cases e)]
 rw [HE.out, HFn.out]
 clear HE HFn HSV HCK HC
 obtain ⟨kd, ⟨nn, na, n3, n4⟩, ⟨sn, si, sm, sp, tg, s6, s7⟩, ⟨cn, ci, cs, ct, ce, c6, c7⟩, cas, wt⟩ := o
 simp only [Opp.v] at *
 subst hcas
 have q1 : (kd == 1) = false := by simpa using hk1
 have q2 : (kd == 2) = false := by simpa using hk2
 have q3 : (kd == 3) = false := by simpa using hk3
 have q4 : (kd == 4) = false := by simpa using hk4
 have q5 : (kd == 5) = false := by simpa using hk5
 have q6 : (kd == 6) = false := by simpa using hk6
 clear hk1 hk2 hk3 hk4 hk5 hk6
 generalize tg.length = tl at *
 obtain ⟨b1, b2, b3, b4⟩ := three_new w (.cells (o21 kd nn na n3 n4 sn si sm sp (.slice ta tl tc) s6 s7 cn ci cs ct ce c6 c7 false wt) 54) (.cells z21 54) (.cells (o21 kd ⟨#[]⟩ ⟨#[]⟩ 0 0 ⟨#[]⟩ ⟨#[]⟩ ⟨#[]⟩ 0 (.slice none 0 0) 0 0 ⟨#[]⟩ ⟨#[]⟩ ⟨#[]⟩ 0 ⟨#[]⟩ 0 0 false 0) 54)
 obtain ⟨w3, Hw3⟩ : ∃ w3, Hid (w3 = ((w.alloc (.cells (o21 kd nn na n3 n4 sn si sm sp (.slice ta tl tc) s6 s7 cn ci cs ct ce c6 c7 false wt) 54)).alloc (.cells z21 54)).alloc (.cells (o21 kd ⟨#[]⟩ ⟨#[]⟩ 0 0 ⟨#[]⟩ ⟨#[]⟩ ⟨#[]⟩ 0 (.slice none 0 0) 0 0 ⟨#[]⟩ ⟨#[]⟩ ⟨#[]⟩ 0 ⟨#[]⟩ 0 0 false 0) 54)) := ⟨_, rfl⟩
 have HA3 : Hid (Blk w3 w.heap.size (o21 kd nn na n3 n4 sn si sm sp (.slice ta tl tc) s6 s7 cn ci cs ct ce c6 c7 false wt) 54) := by rw [Hw3.out]; exact b1
 have HR3 : Hid (Blk w3 (w.heap.size + 1) z21 54) := by rw [Hw3.out]; exact b2
 have HF3 : Hid (Blk w3 (w.heap.size + 1 + 1) (o21 kd ⟨#[]⟩ ⟨#[]⟩ 0 0 ⟨#[]⟩ ⟨#[]⟩ ⟨#[]⟩ 0 (.slice none 0 0) 0 0 ⟨#[]⟩ ⟨#[]⟩ ⟨#[]⟩ 0 ⟨#[]⟩ 0 0 false 0) 54) := by rw [Hw3.out]; exact b3
 have HB3 : Hid (Below w.heap.size w w3) := by rw [Hw3.out]; exact b4
 clear b1 b2 b3 b4
 go_enter Tryz.func66, Tryz.ntmps66
 have HZz : Hid (OppA w oppZ 96 (.returned (.tuple #[.agg z21, .int .i64 96])) (w3.setRow (w.heap.size + 1) z21)) := ⟨.slice none 0 0, rfl, World.ownsRow_nil _ _ _ _, below_setRow HB3.out (by omega) _⟩
 have HLd : Hid ((loadVar 54 ⟨(w.heap.size + 1), 0, none⟩).run Tryz.prog (w3.setRow (w.heap.size + 1) z21) = .ok (.agg z21) (w3.setRow (w.heap.size + 1) z21)) := load_op (blk_setRow HR3.out _) rfl
 iterate 36 go_step
 refine wp_store_op rfl ?_ rfl rfl rfl rfl (by simp [Value.oneCell']) ?_
 ·simp only [size_new]
 go_upto_region 20 with fail
 rw [← Hw3.out]
 iterate 8 go_step
 refine wp_put_op rfl HR3.out rfl rfl rfl rfl (by simp [Value.oneCell']) ?_
 go_wp2
 exact ret_box (g := (w.heap.size + 1)) (w := (w3.setRow (w.heap.size + 1) z21)) (e := .int .i64 96) rfl rfl rfl rfl HLd.out HZz.out
set_option maxRecDepth 100000 in
set_option maxHeartbeats 8000000 in
theorem fixOpa7_true (o : Opp) (hk : ¬ o.kind = 1 ∧ ¬ o.kind = 2 ∧ ¬ o.kind = 3 ∧ ¬ o.kind = 4 ∧ ¬ o.kind = 5 ∧ ¬ o.kind = 6) (hcas : o.cas = true) (ta : Option Addr) (tc : Nat) (w : World) (hs : o.small) (hc : CellsAt w ta (o.svc.tags.map Value.string)) (hv : Vs w) :
  Calls Tryz.prog 66 #[.agg (o.v (.slice ta o.svc.tags.length tc))] w fun e w' => OppA w (oppF o) (oppE o) e w' := by
 obtain ⟨hn1, hn2, hsv, hck⟩ := hs
 have HSV : Hid (Sp.small o.svc) := hsv
 have HCK : Hid (Ck.small o.chk) := hck
 have HC : Hid (CellsAt w ta (o.svc.tags.map Value.string)) := hc
 have HV : Hid (Vs w) := hv
 clear hsv hck hc hv
 obtain ⟨hk1, hk2, hk3, hk4, hk5, hk6⟩ := hk
 have HE : Hid (oppE o = 96) := by unfold oppE; rw [Hid, if_neg hk1, if_neg hk2, if_neg hk3, if_neg hk4, if_neg hk5, if_neg hk6]
 have HFn : Hid (oppF o = oppZ) := by unfold oppF; rw [Hid, if_neg (fun e => by rw [HE.out] at e; cases e)]
 rw [HE.out, HFn.out]
 clear HE HFn HSV HCK HC
 obtain ⟨kd, ⟨nn, na, n3, n4⟩, ⟨sn, si, sm, sp, tg, s6, s7⟩, ⟨cn, ci, cs, ct, ce, c6, c7⟩, cas, wt⟩ := o
 simp only [Opp.v] at *
 subst hcas
 have q1 : (kd == 1) = false := by simpa using hk1
 have q2 : (kd == 2) = false := by simpa using hk2
 have q3 : (kd == 3) = false := by simpa using hk3
 have q4 : (kd == 4) = false := by simpa using hk4
 have q5 : (kd == 5) = false := by simpa using hk5
 have q6 : (kd == 6) = false := by simpa using hk6
 clear hk1 hk2 hk3 hk4 hk5 hk6
 generalize tg.length = tl at *
 obtain ⟨b1, b2, b3, b4⟩ := three_new w (.cells (o21 kd nn na n3 n4 sn si sm sp (.slice ta tl tc) s6 s7 cn ci cs ct ce c6 c7 true wt) 54) (.cells z21 54) (.cells (o21 kd ⟨#[]⟩ ⟨#[]⟩ 0 0 ⟨#[]⟩ ⟨#[]⟩ ⟨#[]⟩ 0 (.slice none 0 0) 0 0 ⟨#[]⟩ ⟨#[]⟩ ⟨#[]⟩ 0 ⟨#[]⟩ 0 0 true wt) 54)
 obtain ⟨w3, Hw3⟩ : ∃ w3, Hid (w3 = ((w.alloc (.cells (o21 kd nn na n3 n4 sn si sm sp (.slice ta tl tc) s6 s7 cn ci cs ct ce c6 c7 true wt) 54)).alloc (.cells z21 54)).alloc (.cells (o21 kd ⟨#[]⟩ ⟨#[]⟩ 0 0 ⟨#[]⟩ ⟨#[]⟩ ⟨#[]⟩ 0 (.slice none 0 0) 0 0 ⟨#[]⟩ ⟨#[]⟩ ⟨#[]⟩ 0 ⟨#[]⟩ 0 0 true wt) 54)) := ⟨_, rfl⟩
 have HA3 : Hid (Blk w3 w.heap.size (o21 kd nn na n3 n4 sn si sm sp (.slice ta tl tc) s6 s7 cn ci cs ct ce c6 c7 true wt) 54) := by rw [Hw3.out]; exact b1
 have HR3 : Hid (Blk w3 (w.heap.size + 1) z21 54) := by rw [Hw3.out]; exact b2
 have HF3 : Hid (Blk w3 (w.heap.size + 1 + 1) (o21 kd ⟨#[]⟩ ⟨#[]⟩ 0 0 ⟨#[]⟩ ⟨#[]⟩ ⟨#[]⟩ 0 (.slice none 0 0) 0 0 ⟨#[]⟩ ⟨#[]⟩ ⟨#[]⟩ 0 ⟨#[]⟩ 0 0 true wt) 54) := by rw [Hw3.out]; exact b3
 have HB3 : Hid (Below w.heap.size w w3) := by rw [Hw3.out]; exact b4
 clear b1 b2 b3 b4
 go_enter Tryz.func66, Tryz.ntmps66
 have HZz : Hid (OppA w oppZ 96 (.returned (.tuple #[.agg z21, .int .i64 96])) (w3.setRow (w.heap.size + 1) z21)) := ⟨.slice none 0 0, rfl, World.ownsRow_nil _ _ _ _, below_setRow HB3.out (by omega) _⟩
 have HLd : Hid ((loadVar 54 ⟨(w.heap.size + 1), 0, none⟩).run Tryz.prog (w3.setRow (w.heap.size + 1) z21) = .ok (.agg z21) (w3.setRow (w.heap.size + 1) z21)) := load_op (blk_setRow HR3.out _) rfl
 iterate 36 go_step
 refine wp_store_op rfl ?_ rfl rfl rfl rfl (by simp [Value.oneCell']) ?_
 ·simp only [size_new]
 go_upto_region 20 with fail
 rw [← Hw3.out]
 iterate 8 go_step
 refine wp_put_op rfl HR3.out rfl rfl rfl rfl (by simp [Value.oneCell']) ?_
 go_wp2
 exact ret_box (g := (w.heap.size + 1)) (w := (w3.setRow (w.heap.size + 1) z21)) (e := .int .i64 96) rfl rfl rfl rfl HLd.out HZz.out
end Go.Proofs.YtbhhjnbomhkdmaaGreatDoor

/- Layer 9 (records): FixOp, whole. -/
namespace Go.Proofs.YtbhhjnbomhkdmaaGreatDoor
open Go.RowKit

theorem fixOp_calls (o : Opp) (ta : Option Addr) (tc : Nat) (w : World) (hs : o.small) (hc : CellsAt w ta (o.svc.tags.map Value.string)) (hv : Vs w) :
  Calls Tryz.prog 66 #[.agg (o.v (.slice ta o.svc.tags.length tc))] w fun e w' => OppA w (oppF o) (oppE o) e w' := by
 rcases hb : o.cas
 ·by_cases h1 : o.kind = 1
  ·exact fixOpa1_false o h1 hb ta tc w hs hc hv
  by_cases h2 : o.kind = 2
  ·exact fixOpa2_false o h2 hb ta tc w hs hc hv
  by_cases h3 : o.kind = 3
  ·exact fixOpa3_false o h3 hb ta tc w hs hc hv
  by_cases h4 : o.kind = 4
  ·exact fixOpa4_false o h4 hb ta tc w hs hc hv
  by_cases h5 : o.kind = 5
  ·exact fixOpa5_false o h5 hb ta tc w hs hc hv
  by_cases h6 : o.kind = 6
  ·exact fixOpa6_false o h6 hb ta tc w hs hc hv
  exact fixOpa7_false o ⟨h1, h2, h3, h4, h5, h6⟩ hb ta tc w hs hc hv
 ·by_cases h1 : o.kind = 1
  ·exact fixOpa1_true o h1 hb ta tc w hs hc hv
  by_cases h2 : o.kind = 2
  ·exact fixOpa2_true o h2 hb ta tc w hs hc hv
  by_cases h3 : o.kind = 3
  ·exact fixOpa3_true o h3 hb ta tc w hs hc hv
  by_cases h4 : o.kind = 4
  ·exact fixOpa4_true o h4 hb ta tc w hs hc hv
  by_cases h5 : o.kind = 5
  ·exact fixOpa5_true o h5 hb ta tc w hs hc hv
  by_cases h6 : o.kind = 6
  ·exact fixOpa6_true o h6 hb ta tc w hs hc hv
  exact fixOpa7_true o ⟨h1, h2, h3, h4, h5, h6⟩ hb ta tc w hs hc hv
end Go.Proofs.YtbhhjnbomhkdmaaGreatDoor

/- Layer 13 (journal): isOdd. -/
namespace Go.Proofs.YtbhhjnbomhkdmaaGreatDoor
open Go.RowKit
set_option linter.unusedVariables false

set_option maxRecDepth 100000 in
set_option maxHeartbeats 8000000 in
theorem isOdd_calls (x : OV) (w : World) (hv : Vs w) (hs : x.o.small) (hl : x.o.svc.tags.length ≤ 140737488355328) (ht : CellsAt w x.ta (x.o.svc.tags.map Value.string)) :
  Calls Tryz.prog 51 #[.agg x.v] w fun e w' => e = .returned (.bool (!sndB x.o)) ∧ Below w.heap.size w w' := by
 obtain ⟨o, ta, tc⟩ := x
 have HV : Hid (Vs w) := hv
 have HT : Hid (CellsAt w ta (o.svc.tags.map Value.string)) := ht
 obtain ⟨ne, Hne⟩ : ∃ x, Hid (x = oppE o) := ⟨_, rfl⟩
 obtain ⟨r, Hr⟩ : ∃ x, Hid (x = oppF o) := ⟨_, rfl⟩
 obtain ⟨R, HR⟩ : ∃ x, Hid (x = !sndB o) := ⟨_, rfl⟩
 obtain ⟨D, HD⟩ : ∃ x, Hid (x = sameO o r) := ⟨_, rfl⟩
 have C3 : Hid (∀ ta tc w, CellsAt w ta (o.svc.tags.map Value.string) → Vs w → Calls Tryz.prog 66 #[.agg (o.v (.slice ta o.svc.tags.length tc))] w fun e w' => OppA w r ne e w') := fun ta tc w h h2 => by rw [Hr.out, Hne.out]; exact fixOp_calls o ta tc w hs h h2
 have C4 : Hid (∀ a b ac bc w, CellsAt w a (o.svc.tags.map Value.string) → CellsAt w b (r.svc.tags.map Value.string) → Calls Tryz.prog 67 #[.agg (o.v (.slice a o.svc.tags.length ac)), .agg (r.v (.slice b r.svc.tags.length bc))] w fun e w' => e = .returned (.bool D) ∧ Below w.heap.size w w') := fun a b ac bc w h1 h2 => by rw [HD.out]; exact jsameOp_calls o r a b ac bc w hl (by rw [Hr.out]; have := oppF_lenN o; omega) h1 h2
 have HRE : Hid (R = if ne = 0 then !D else true) := by
  show _ = _
  rw [HR.out, HD.out, Hne.out, Hr.out]
  unfold sndB
  by_cases h : oppE o = 0 <;> simp [h]
 clear Hne Hr HD hs hv ht hl
 simp only [OV.v]
 rw [← HR.out]
 clear HR
 obtain ⟨tl, Htl⟩ : ∃ x, Hid (x = o.svc.tags.length) := ⟨_, rfl⟩
 obtain ⟨fl, Hfl⟩ : ∃ x, Hid (x = r.svc.tags.length) := ⟨_, rfl⟩
 obtain ⟨TL, HTL⟩ : ∃ x, Hid (x = o.svc.tags.map Value.string) := ⟨_, rfl⟩
 obtain ⟨FL, HFL⟩ : ∃ x, Hid (x = r.svc.tags.map Value.string) := ⟨_, rfl⟩
 simp only [OppA] at *
 rw [← Htl.out] at C3 C4 ⊢
 rw [← Hfl.out] at C3 C4
 rw [← HTL.out] at C3 C4 HT
 rw [← HFL.out] at C3 C4
 clear Htl Hfl HTL HFL
 obtain ⟨wx, Hwx⟩ : ∃ x, Hid (x = w.alloc (.cells (o.v (.slice ta tl tc)) 54)) := ⟨_, rfl⟩
 have KA_wx : Hid (Blk wx w.heap.size (o.v (.slice ta tl tc)) 54) := by rw [Hwx.out]; exact Blk.new _ _ _
 have B_wx : Hid (Below w.heap.size w wx) := by rw [Hwx.out]; exact below_new w _
 go_enter Tryz.func51, Tryz.ntmps51
 go_upto_region 1 with fail
 rw [← Hwx.out]
 clear Hwx
 iterate 2 go_step
 refine wp_get_op rfl KA_wx.out rfl rfl ?_
 go_wp2_with fail
 refine (C3.out ta tc wx (HT.out.below B_wx.out) (HV.out.stay B_wx.out)).mono ?_
 rintro e w4 ⟨v, rfl, ho, hb⟩
 obtain ⟨ra, rc, rfl, -⟩ := row_forms ho
 dsimp only
 iterate 14 go_step
 refine wp_store_op rfl rfl rfl rfl rfl rfl (v_oneN _ _ _ _) ?_
 obtain ⟨w5, Hw5⟩ : ∃ x, Hid (x = w4.alloc (.cells (r.v (.slice ra fl rc)) 54)) := ⟨_, rfl⟩
 have hb5 : Below wx.heap.size wx w5 := by rw [Hw5.out]; exact hb.alloc hb.size _
 have KA_w5 : Hid (Blk w5 w.heap.size (o.v (.slice ta tl tc)) 54) := KA_wx.out.below hb5
 have B_w5 : Hid (Below w.heap.size w w5) := B_wx.out.trans (hb5.mono B_wx.out.size)
 obtain ⟨p4, Hp4⟩ : ∃ x, Hid (x = w4.heap.size) := ⟨_, rfl⟩
 have KR_w5 : Hid (Blk w5 p4 (r.v (.slice ra fl rc)) 54) := by rw [Hw5.out, Hp4.out]; exact Blk.new _ _ _
 have RR_w5 : Hid (CellsAt w5 ra FL) := by rw [Hw5.out]; exact CellsAt.below (row_cells ho) (below_new w4 _)
 rw [← Hw5.out, ← Hp4.out]
 clear Hw5 Hp4 hb5 hb ho KA_wx B_wx
 by_cases h0 : ne = 0
 ·have HF : Hid (R = !D) := by show _ = _; rw [HRE.out, if_pos h0]
  clear HRE
  subst h0
  go_upto_region 2 with fail
  iterate 10 go_step
  refine wpList_get_opN (by rfl) rfl KA_w5.out rfl rfl ?_
  refine wpList_get_opN (by rfl) rfl KR_w5.out rfl rfl ?_
  go_wp2_with fail
  refine (C4.out ta ra tc rc w5 (HT.out.below B_w5.out) RR_w5.out).mono ?_
  rintro e w6 ⟨rfl, hb6⟩
  have B_w6 : Hid (Below w.heap.size w w6) := B_w5.out.trans (hb6.mono B_w5.out.size)
  clear hb6 B_w5 KA_w5 KR_w5 RR_w5
  go_wp2
  go_ret
  exact ⟨by rw [HF.out]; rfl, B_w6.out⟩
 ·have HF : Hid (R = true) := by show _ = _; rw [HRE.out, if_neg h0]
  have q : (ne != 0) = true := by simpa using h0
  clear HRE h0
  go_wp2
  go_ret
  exact ⟨by rw [HF.out]; rfl, B_w5.out⟩
end Go.Proofs.YtbhhjnbomhkdmaaGreatDoor

/- Layer 13 (journal): IndexFunc and ContainsFunc with isOdd, isSound. -/
namespace Go.Proofs.YtbhhjnbomhkdmaaGreatDoor
open Go.RowKit
set_option linter.unusedVariables false

structure OV.ok (x : OV) : Prop where
 small : x.o.small
 len : x.o.svc.tags.length ≤ 140737488355328
def oddAt (l : List OV) : Int := match l.findIdx? (fun x => !sndB x.o) with | some i => i | none => -1
theorem odd_hit {l : List OV} {k : Nat} (hk : k < l.length) (h : (!sndB l[k].o) = true) (hb : noneTo (fun x : OV => !sndB x.o) l k) : (k : Int) = oddAt l := by
 have e : l.findIdx? (fun x => !sndB x.o) = some k := by
  rw [List.findIdx?_eq_some_iff_getElem]
  exact ⟨hk, h, fun j hj => by have := hb j (by omega) hj; simpa using this⟩
 unfold oddAt
 rw [e]
theorem odd_none {l : List OV} {k : Nat} (hk : l.length ≤ k) (hb : noneTo (fun x : OV => !sndB x.o) l k) : -1 = oddAt l := by
 have e : l.findIdx? (fun x => !sndB x.o) = none := by
  rw [List.findIdx?_eq_none_iff]
  intro x hx
  obtain ⟨j, hj, rfl⟩ := List.getElem_of_mem hx
  have := hb j hj (by omega)
  simpa using this
 unfold oddAt
 rw [e]
theorem odd_all (l : List OV) : decide (0 ≤ oddAt l) = !(ops l).all sndB := by
 unfold oddAt
 cases h : l.findIdx? (fun x => !sndB x.o) with
 | none =>
  rw [List.findIdx?_eq_none_iff] at h
  have : (ops l).all sndB = true := by
   rw [List.all_eq_true]
   intro o ho
   obtain ⟨x, hx, rfl⟩ := List.mem_map.1 ho
   have := h x hx
   simpa using this
  rw [this]
  rfl
 | some i =>
  rw [List.findIdx?_eq_some_iff_getElem] at h
  obtain ⟨hi, h1, _⟩ := h
  have : (ops l).all sndB = false := by
   rw [List.all_eq_false]
   exact ⟨l[i].o, List.mem_map.2 ⟨_, List.getElem_mem hi, rfl⟩, by simpa using h1⟩
  rw [this]
  simp

set_option maxRecDepth 100000 in
set_option maxHeartbeats 4000000 in
theorem indexOdd_calls (ao : Option Addr) (c : Nat) (l : List OV) (f : Value) (w : World) (hf : f = .func (.func 51) #[] #[]) (hv : Vs w) (hl : l.length ≤ 140737488355328) (hok : ∀ x ∈ l, x.ok) (hat : OpsAt w ao l) :
  Calls Tryz.prog 65 #[.slice ao l.length c, f] w fun e w' => e = .returned (.int .i64 (oddAt l)) ∧ Below w.heap.size w w' := by
 subst hf
 have HV : Hid (Vs w) := hv
 have HK : Hid (∀ k (h : k < l.length), l[k].ok) := fun k h => hok _ (List.getElem_mem h)
 have HAT : Hid (OpsAt w ao l) := hat
 clear hok hat hv
 go_enter Tryz.func65, Tryz.ntmps65
 go_wp2
 go_loopw [8] (fun i wr => ∃ k : Nat, k ≤ l.length ∧ i = .int .i64 k ∧ Hid (noneTo (fun x : OV => !sndB x.o) l k) ∧ Hid (Below w.heap.size w wr)) (fun i _ => l.length - (intOf i).toNat)
 case atStart => exact ⟨0, Nat.zero_le _, rfl, noneTo.zero _ _, Below.refl _ _⟩
 case round =>
  obtain ⟨k, hk, rfl, HNo, HB⟩ := hrel
  by_cases hlt : k < l.length
  ·obtain ⟨b, off, rfl, hrange⟩ := (HAT.out.below HB.out).at k hlt
   obtain ⟨y, Hy⟩ : ∃ y, Hid (y = l[k]'hlt) := ⟨_, rfl⟩
   have HYok : Hid y.ok := by rw [Hy.out]; exact HK.out k hlt
   have HTG : Hid (CellsAt wr y.ta (y.o.svc.tags.map Value.string)) := by rw [Hy.out]; exact ((HAT.out.below HB.out).tags _ (List.getElem_mem hlt))
   have HRG : Hid (wr.rangeAt b (off + k * 21) y.v.toList) := by rw [Hy.out]; exact hrange
   clear hrange
   go_upto_region 4 with fail
   iterate 14 go_step
   refine wp_load_ov rfl rfl HRG.out ?_
   go_wp2_with fail
   refine (isOdd_calls y wr (HV.out.stay HB.out) HYok.out.small HYok.out.len HTG.out).mono ?_
   rintro e w2 ⟨rfl, hb2⟩
   have HB2 : Hid (Below w.heap.size w w2) := HB.out.trans (hb2.mono HB.out.size)
   clear hb2 HRG HTG HB
   cases hd : sndB y.o with
   | true =>
    have HN2 : Hid (noneTo (fun x : OV => !sndB x.o) l (k + 1)) := HNo.out.succ hlt (by simp only [← Hy.out, hd]; rfl)
    clear hd
    go_wp2
    go_roundw
    case rel => exact ⟨k + 1, by omega, by go_num, HN2, HB2⟩
    case measure => simp [intOf]; omega
   | false =>
    have HE : Hid ((k : Int) = oddAt l) := odd_hit hlt (by simp only [← Hy.out, hd]; rfl) HNo.out
    clear hd
    go_wp2
    go_ret
    exact ⟨ret_num HE.out, HB2.out⟩
  ·have HE : Hid (-1 = oddAt l) := odd_none (by omega) HNo.out
   go_wp2
   go_ret
   exact ⟨ret_num HE.out, HB.out⟩

set_option maxRecDepth 100000 in
set_option maxHeartbeats 1000000 in
theorem containsOdd_calls (ao : Option Addr) (c : Nat) (l : List OV) (w : World) (hv : Vs w) (hl : l.length ≤ 140737488355328) (hok : ∀ x ∈ l, x.ok) (hat : OpsAt w ao l) :
  Calls Tryz.prog 50 #[.slice ao l.length c, .func (.func 51) #[] #[]] w fun e w' => e = .returned (.bool (!(ops l).all sndB)) ∧ Below w.heap.size w w' := by
 have HC : Hid (Calls Tryz.prog 65 #[.slice ao l.length c, .func (.func 51) #[] #[]] w fun e w' => e = .returned (.int .i64 (oddAt l)) ∧ Below w.heap.size w w') := indexOdd_calls ao c l _ w rfl hv hl hok hat
 have HE : Hid (decide (0 ≤ oddAt l) = !(ops l).all sndB) := odd_all l
 clear hv hl hok hat
 go_enter Tryz.func50, Tryz.ntmps50
 go_wp2_with fail
 refine HC.out.mono ?_
 rintro e w1 ⟨rfl, hb1⟩
 clear HC
 go_wp2
 go_ret
 exact ⟨ret_bool HE.out, hb1⟩

def entV (i : Int) (ao : Option Addr) (n c : Nat) : Array Value := #[.int .u64 i, .slice ao n c]
set_option maxRecDepth 100000 in
set_option maxHeartbeats 1000000 in
theorem isSound_calls (i : Int) (ao : Option Addr) (c : Nat) (l : List OV) (w : World) (hv : Vs w) (hl : l.length ≤ 140737488355328) (hok : ∀ x ∈ l, x.ok) (hat : OpsAt w ao l) :
  Calls Tryz.prog 31 #[.agg (entV i ao l.length c)] w fun e w' => e = .returned (.bool (soundB (ops l))) ∧ Below w.heap.size w w' := by
 have HC : Hid (∀ w', Below w.heap.size w w' → Calls Tryz.prog 50 #[.slice ao l.length c, .func (.func 51) #[] #[]] w' fun e w'' => e = .returned (.bool (!(ops l).all sndB)) ∧ Below w'.heap.size w' w'') := fun w' h => containsOdd_calls ao c l w' (hv.stay h) hl hok (hat.below h)
 have hlen : (ops l).length = l.length := by simp [ops]
 obtain ⟨R, HR⟩ : ∃ x, Hid (x = soundB (ops l)) := ⟨_, rfl⟩
 rw [← HR.out]
 have HRE : Hid (R = (decide (1 ≤ l.length) && decide (l.length ≤ 64) && (ops l).all sndB)) := by show _ = _; rw [HR.out]; unfold soundB; rw [hlen]
 clear HR hlen hv hok hat
 obtain ⟨n, Hn⟩ : ∃ x, Hid (x = l.length) := ⟨_, rfl⟩
 rw [← Hn.out] at HC HRE hl ⊢
 clear Hn
 obtain ⟨wx, Hwx⟩ : ∃ x, Hid (x = w.alloc (.cells (entV i ao n c) 27)) := ⟨_, rfl⟩
 have KA : Hid (Blk wx w.heap.size (entV i ao n c) 27) := by rw [Hwx.out]; exact Blk.new _ _ _
 have HB : Hid (Below w.heap.size w wx) := by rw [Hwx.out]; exact below_new w _
 have c1 : wx.cell? ⟨w.heap.size, 1, none⟩ = some (.slice ao n c) := KA.out.cell 1 rfl
 by_cases h0 : n = 0
 ·have HF : Hid (R = false) := by show _ = _; rw [HRE.out, h0]; rfl
  have q : ((n : Int) == 0) = true := by simp [h0]
  clear h0
  go_enter Tryz.func31, Tryz.ntmps31
  go_upto_region 1 with fail
  rw [← Hwx.out]
  clear Hwx
  go_wp2
  go_ret
  exact ⟨ret_bool HF.out.symm, HB.out⟩
 have q : ((n : Int) == 0) = false := by simp [h0]
 by_cases h64 : n ≤ 64
 ·have HF : Hid (R = (ops l).all sndB) := by
   show _ = _
   rw [HRE.out, show decide (1 ≤ n) = true from by simp; omega, show decide (n ≤ 64) = true from by simpa using h64]
   simp
  have q2 : ¬ (64 : Int) < (n : Int) := by omega
  clear h0
  obtain ⟨D, HD⟩ : ∃ x, Hid (x = (ops l).all sndB) := ⟨_, rfl⟩
  rw [← HD.out] at HC HF
  clear HD
  go_enter Tryz.func31, Tryz.ntmps31
  go_upto_region 1 with fail
  rw [← Hwx.out]
  clear Hwx
  go_wp2_with fail
  refine (HC.out wx HB.out).mono ?_
  rintro e w1 ⟨rfl, hb1⟩
  have HB1 : Hid (Below w.heap.size w w1) := HB.out.trans (hb1.mono HB.out.size)
  clear HC hb1 c1
  go_wp2
  go_ret
  exact ⟨ret_bool (by rw [HF.out]), HB1.out⟩
 ·have HF : Hid (R = false) := by
   show _ = _
   rw [HRE.out, show decide (n ≤ 64) = false from by simpa using h64]
   simp
  have q2 : (64 : Int) < (n : Int) := by omega
  clear h0
  go_enter Tryz.func31, Tryz.ntmps31
  go_upto_region 1 with fail
  rw [← Hwx.out]
  clear Hwx
  go_wp2
  go_ret
  exact ⟨ret_bool HF.out.symm, HB.out⟩
end Go.Proofs.YtbhhjnbomhkdmaaGreatDoor

/- Layer 13 (journal): append of bytes as one step of a region that draws its order. -/
namespace Go.Proofs.YtbhhjnbomhkdmaaGreatDoor
open Go.RowKit
set_option linter.unusedVariables false

theorem step_append_u8 {ops : Array Oper} {o : Oper} {a : Act} {K : Act → World → Prop} {Q : Exit → Act → World → Prop} {E : Prop} (W : World) (hgd : o.guard = none) (s x : Operand)
  (ho : o.op = .call { callee := .builtin .append, args := #[s, x], argTypes := #[22, 22] })
  (B : Nat) (v : Value) (l : List UInt8) (hs : a.eval s = v) (hown : Own W B v l) (ad : Addr) (m c : Nat) (news : List UInt8) (hx : a.eval x = .slice (some ad) m c) (hm : news.length = m) (hnews : ∀ j u, (bs news)[j]? = some u → W.cell? (ad.add j) = some u)
  (hlen : l.length + m ≤ 140737488355328) (hB : B ≤ W.heap.size)
  (h : ∀ v' w', Own w' B v' (l ++ news) → Grew W w' v v' → K (a.put o.dst v') w') :
  if Region.wanted o (yielded ops a.tmps) = true then Oper.wp Tryz.prog o a W K Q else E := by
 have hw : Region.wanted o (yielded ops a.tmps) = true := by simp [Region.wanted, hgd]
 rw [if_pos hw]
 obtain ⟨i0, hi, hz0, hz1, hz2⟩ := info_parts info_u8
 subst hm
 obtain ⟨v', w', hr, h2, h3, _⟩ := run_append_grew (P := Tryz.prog) W B 22 o.type 5 i0 (.int .u8 0) 1 1 Tryz.underlying22 hi hz0 hz1 hz2 rfl (by decide) v l.length (bs l) hown ad news.length c (bs news) (by simp [bs]) hnews (bs_one _) (by unfold maxLen; omega) (by omega) hB
 unfold Oper.wp execOp
 simp only [ho, resolve, invoke, builtin, Sem.run_bind, Sem.run_pure, Result.andThen_ok, List.map_toArray, List.map_cons, List.map_nil, hs, hx, hr]
 refine h v' w' ?_ h3
 unfold Own
 rw [bs_append, List.length_append]
 exact h2
end Go.Proofs.YtbhhjnbomhkdmaaGreatDoor
