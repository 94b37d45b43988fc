import Derived.Test.YthgcnmilaifkoaaGreatDoorRcCopyS
import Derived.Test.YthgcnmilaifkoaaGreatDoorRcOa1
import Derived.Test.YthgcnmilaifkoaaGreatDoorRcOa2
import Derived.Test.YthgcnmilaifkoaaGreatDoorRcOa4
import Derived.Test.YthgcnmilaifkoaaGreatDoorRcOa5
import Derived.Test.YthgcnmilaifkoaaGreatDoorRcOa6
import Derived.Test.YthgcnmilaifkoaaGreatDoorJPay
/- Layer 9 (records): FixOp, none of the six. -/
namespace Go.Proofs.YthgcnmilaifkoaaGreatDoor
open Go.RowKit
set_option linter.unusedVariables false

set_option maxRecDepth 100000 in
set_option maxHeartbeats 8000000 in
theorem fixOpa7_false (o : Opp) (hk : ¬ o.kind = 1 ∧ ¬ o.kind = 2 ∧ ¬ o.kind = 3 ∧ ¬ o.kind = 4 ∧ ¬ o.kind = 5 ∧ ¬ o.kind = 6) (hcas : o.cas = false) (ta : Option Addr) (tc : Nat) (w : World) (hs : o.small) (hc : CellsAt w ta (o.svc.tags.map Value.string)) (hv : Vs w) :
  Calls Tryz.prog 52 #[.agg (o.v (.slice ta o.svc.tags.length tc))] w fun e w' => OppA w (oppF o) (oppE o) e w' := by
 obtain ⟨hn1, hn2, hsv, hck⟩ := hs
 have HSV : Hid (Sp.small o.svc) := hsv
 have HCK : Hid (Ck.small o.chk) := hck
 have HC : Hid (CellsAt w ta (o.svc.tags.map Value.string)) := hc
 have HV : Hid (Vs w) := hv
 clear hsv hck hc hv
 obtain ⟨hk1, hk2, hk3, hk4, hk5, hk6⟩ := hk
 have HE : Hid (oppE o = 96) := by unfold oppE; rw [Hid, if_neg hk1, if_neg hk2, if_neg hk3, if_neg hk4, if_neg hk5, if_neg hk6]
 have HFn : Hid (oppF o = oppZ) := by unfold oppF; rw [Hid, if_neg (fun e => by rw [HE.out] at e; cases e)]
 rw [HE.out, HFn.out]
 clear HE HFn HSV HCK HC
 obtain ⟨kd, ⟨nn, na, n3, n4⟩, ⟨sn, si, sm, sp, tg, s6, s7⟩, ⟨cn, ci, cs, ct, ce, c6, c7⟩, cas, wt⟩ := o
 simp only [Opp.v] at *
 subst hcas
 have q1 : (kd == 1) = false := by simpa using hk1
 have q2 : (kd == 2) = false := by simpa using hk2
 have q3 : (kd == 3) = false := by simpa using hk3
 have q4 : (kd == 4) = false := by simpa using hk4
 have q5 : (kd == 5) = false := by simpa using hk5
 have q6 : (kd == 6) = false := by simpa using hk6
 clear hk1 hk2 hk3 hk4 hk5 hk6
 generalize tg.length = tl at *
 obtain ⟨b1, b2, b3, b4⟩ := three_new w (.cells (o21 kd nn na n3 n4 sn si sm sp (.slice ta tl tc) s6 s7 cn ci cs ct ce c6 c7 false wt) 47) (.cells z21 47) (.cells (o21 kd ⟨#[]⟩ ⟨#[]⟩ 0 0 ⟨#[]⟩ ⟨#[]⟩ ⟨#[]⟩ 0 (.slice none 0 0) 0 0 ⟨#[]⟩ ⟨#[]⟩ ⟨#[]⟩ 0 ⟨#[]⟩ 0 0 false 0) 47)
 obtain ⟨w3, Hw3⟩ : ∃ w3, Hid (w3 = ((w.alloc (.cells (o21 kd nn na n3 n4 sn si sm sp (.slice ta tl tc) s6 s7 cn ci cs ct ce c6 c7 false wt) 47)).alloc (.cells z21 47)).alloc (.cells (o21 kd ⟨#[]⟩ ⟨#[]⟩ 0 0 ⟨#[]⟩ ⟨#[]⟩ ⟨#[]⟩ 0 (.slice none 0 0) 0 0 ⟨#[]⟩ ⟨#[]⟩ ⟨#[]⟩ 0 ⟨#[]⟩ 0 0 false 0) 47)) := ⟨_, rfl⟩
 have HA3 : Hid (Blk w3 w.heap.size (o21 kd nn na n3 n4 sn si sm sp (.slice ta tl tc) s6 s7 cn ci cs ct ce c6 c7 false wt) 47) := by rw [Hw3.out]; exact b1
 have HR3 : Hid (Blk w3 (w.heap.size + 1) z21 47) := by rw [Hw3.out]; exact b2
 have HF3 : Hid (Blk w3 (w.heap.size + 1 + 1) (o21 kd ⟨#[]⟩ ⟨#[]⟩ 0 0 ⟨#[]⟩ ⟨#[]⟩ ⟨#[]⟩ 0 (.slice none 0 0) 0 0 ⟨#[]⟩ ⟨#[]⟩ ⟨#[]⟩ 0 ⟨#[]⟩ 0 0 false 0) 47) := by rw [Hw3.out]; exact b3
 have HB3 : Hid (Below w.heap.size w w3) := by rw [Hw3.out]; exact b4
 clear b1 b2 b3 b4
 go_enter Tryz.func52, Tryz.ntmps52
 have HZz : Hid (OppA w oppZ 96 (.returned (.tuple #[.agg z21, .int .i64 96])) (w3.setRow (w.heap.size + 1) z21)) := ⟨.slice none 0 0, rfl, World.ownsRow_nil _ _ _ _, below_setRow HB3.out (by omega) _⟩
 have HLd : Hid ((loadVar 47 ⟨(w.heap.size + 1), 0, none⟩).run Tryz.prog (w3.setRow (w.heap.size + 1) z21) = .ok (.agg z21) (w3.setRow (w.heap.size + 1) z21)) := load_op (blk_setRow HR3.out _) rfl
 iterate 36 go_step
 refine wp_store_op rfl ?_ rfl rfl rfl rfl (by simp [Value.oneCell']) ?_
 ·simp only [size_new]
 go_upto_region 20 with fail
 rw [← Hw3.out]
 iterate 8 go_step
 refine wp_put_op rfl HR3.out rfl rfl rfl rfl (by simp [Value.oneCell']) ?_
 go_wp2
 exact ret_box (g := (w.heap.size + 1)) (w := (w3.setRow (w.heap.size + 1) z21)) (e := .int .i64 96) rfl rfl rfl rfl HLd.out HZz.out
set_option maxRecDepth 100000 in
set_option maxHeartbeats 8000000 in
theorem fixOpa7_true (o : Opp) (hk : ¬ o.kind = 1 ∧ ¬ o.kind = 2 ∧ ¬ o.kind = 3 ∧ ¬ o.kind = 4 ∧ ¬ o.kind = 5 ∧ ¬ o.kind = 6) (hcas : o.cas = true) (ta : Option Addr) (tc : Nat) (w : World) (hs : o.small) (hc : CellsAt w ta (o.svc.tags.map Value.string)) (hv : Vs w) :
  Calls Tryz.prog 52 #[.agg (o.v (.slice ta o.svc.tags.length tc))] w fun e w' => OppA w (oppF o) (oppE o) e w' := by
 obtain ⟨hn1, hn2, hsv, hck⟩ := hs
 have HSV : Hid (Sp.small o.svc) := hsv
 have HCK : Hid (Ck.small o.chk) := hck
 have HC : Hid (CellsAt w ta (o.svc.tags.map Value.string)) := hc
 have HV : Hid (Vs w) := hv
 clear hsv hck hc hv
 obtain ⟨hk1, hk2, hk3, hk4, hk5, hk6⟩ := hk
 have HE : Hid (oppE o = 96) := by unfold oppE; rw [Hid, if_neg hk1, if_neg hk2, if_neg hk3, if_neg hk4, if_neg hk5, if_neg hk6]
 have HFn : Hid (oppF o = oppZ) := by unfold oppF; rw [Hid, if_neg (fun e => by rw [HE.out] at e; cases e)]
 rw [HE.out, HFn.out]
 clear HE HFn HSV HCK HC
 obtain ⟨kd, ⟨nn, na, n3, n4⟩, ⟨sn, si, sm, sp, tg, s6, s7⟩, ⟨cn, ci, cs, ct, ce, c6, c7⟩, cas, wt⟩ := o
 simp only [Opp.v] at *
 subst hcas
 have q1 : (kd == 1) = false := by simpa using hk1
 have q2 : (kd == 2) = false := by simpa using hk2
 have q3 : (kd == 3) = false := by simpa using hk3
 have q4 : (kd == 4) = false := by simpa using hk4
 have q5 : (kd == 5) = false := by simpa using hk5
 have q6 : (kd == 6) = false := by simpa using hk6
 clear hk1 hk2 hk3 hk4 hk5 hk6
 generalize tg.length = tl at *
 obtain ⟨b1, b2, b3, b4⟩ := three_new w (.cells (o21 kd nn na n3 n4 sn si sm sp (.slice ta tl tc) s6 s7 cn ci cs ct ce c6 c7 true wt) 47) (.cells z21 47) (.cells (o21 kd ⟨#[]⟩ ⟨#[]⟩ 0 0 ⟨#[]⟩ ⟨#[]⟩ ⟨#[]⟩ 0 (.slice none 0 0) 0 0 ⟨#[]⟩ ⟨#[]⟩ ⟨#[]⟩ 0 ⟨#[]⟩ 0 0 true wt) 47)
 obtain ⟨w3, Hw3⟩ : ∃ w3, Hid (w3 = ((w.alloc (.cells (o21 kd nn na n3 n4 sn si sm sp (.slice ta tl tc) s6 s7 cn ci cs ct ce c6 c7 true wt) 47)).alloc (.cells z21 47)).alloc (.cells (o21 kd ⟨#[]⟩ ⟨#[]⟩ 0 0 ⟨#[]⟩ ⟨#[]⟩ ⟨#[]⟩ 0 (.slice none 0 0) 0 0 ⟨#[]⟩ ⟨#[]⟩ ⟨#[]⟩ 0 ⟨#[]⟩ 0 0 true wt) 47)) := ⟨_, rfl⟩
 have HA3 : Hid (Blk w3 w.heap.size (o21 kd nn na n3 n4 sn si sm sp (.slice ta tl tc) s6 s7 cn ci cs ct ce c6 c7 true wt) 47) := by rw [Hw3.out]; exact b1
 have HR3 : Hid (Blk w3 (w.heap.size + 1) z21 47) := by rw [Hw3.out]; exact b2
 have HF3 : Hid (Blk w3 (w.heap.size + 1 + 1) (o21 kd ⟨#[]⟩ ⟨#[]⟩ 0 0 ⟨#[]⟩ ⟨#[]⟩ ⟨#[]⟩ 0 (.slice none 0 0) 0 0 ⟨#[]⟩ ⟨#[]⟩ ⟨#[]⟩ 0 ⟨#[]⟩ 0 0 true wt) 47) := by rw [Hw3.out]; exact b3
 have HB3 : Hid (Below w.heap.size w w3) := by rw [Hw3.out]; exact b4
 clear b1 b2 b3 b4
 go_enter Tryz.func52, Tryz.ntmps52
 have HZz : Hid (OppA w oppZ 96 (.returned (.tuple #[.agg z21, .int .i64 96])) (w3.setRow (w.heap.size + 1) z21)) := ⟨.slice none 0 0, rfl, World.ownsRow_nil _ _ _ _, below_setRow HB3.out (by omega) _⟩
 have HLd : Hid ((loadVar 47 ⟨(w.heap.size + 1), 0, none⟩).run Tryz.prog (w3.setRow (w.heap.size + 1) z21) = .ok (.agg z21) (w3.setRow (w.heap.size + 1) z21)) := load_op (blk_setRow HR3.out _) rfl
 iterate 36 go_step
 refine wp_store_op rfl ?_ rfl rfl rfl rfl (by simp [Value.oneCell']) ?_
 ·simp only [size_new]
 go_upto_region 20 with fail
 rw [← Hw3.out]
 iterate 8 go_step
 refine wp_put_op rfl HR3.out rfl rfl rfl rfl (by simp [Value.oneCell']) ?_
 go_wp2
 exact ret_box (g := (w.heap.size + 1)) (w := (w3.setRow (w.heap.size + 1) z21)) (e := .int .i64 96) rfl rfl rfl rfl HLd.out HZz.out
end Go.Proofs.YthgcnmilaifkoaaGreatDoor

/- Layer 9 (records): FixOp, whole. -/
namespace Go.Proofs.YthgcnmilaifkoaaGreatDoor
open Go.RowKit

theorem fixOp_calls (o : Opp) (ta : Option Addr) (tc : Nat) (w : World) (hs : o.small) (hc : CellsAt w ta (o.svc.tags.map Value.string)) (hv : Vs w) :
  Calls Tryz.prog 52 #[.agg (o.v (.slice ta o.svc.tags.length tc))] w fun e w' => OppA w (oppF o) (oppE o) e w' := by
 rcases hb : o.cas
 ·by_cases h1 : o.kind = 1
  ·exact fixOpa1_false o h1 hb ta tc w hs hc hv
  by_cases h2 : o.kind = 2
  ·exact fixOpa2_false o h2 hb ta tc w hs hc hv
  by_cases h3 : o.kind = 3
  ·exact fixOpa3_false o h3 hb ta tc w hs hc hv
  by_cases h4 : o.kind = 4
  ·exact fixOpa4_false o h4 hb ta tc w hs hc hv
  by_cases h5 : o.kind = 5
  ·exact fixOpa5_false o h5 hb ta tc w hs hc hv
  by_cases h6 : o.kind = 6
  ·exact fixOpa6_false o h6 hb ta tc w hs hc hv
  exact fixOpa7_false o ⟨h1, h2, h3, h4, h5, h6⟩ hb ta tc w hs hc hv
 ·by_cases h1 : o.kind = 1
  ·exact fixOpa1_true o h1 hb ta tc w hs hc hv
  by_cases h2 : o.kind = 2
  ·exact fixOpa2_true o h2 hb ta tc w hs hc hv
  by_cases h3 : o.kind = 3
  ·exact fixOpa3_true o h3 hb ta tc w hs hc hv
  by_cases h4 : o.kind = 4
  ·exact fixOpa4_true o h4 hb ta tc w hs hc hv
  by_cases h5 : o.kind = 5
  ·exact fixOpa5_true o h5 hb ta tc w hs hc hv
  by_cases h6 : o.kind = 6
  ·exact fixOpa6_true o h6 hb ta tc w hs hc hv
  exact fixOpa7_true o ⟨h1, h2, h3, h4, h5, h6⟩ hb ta tc w hs hc hv
end Go.Proofs.YthgcnmilaifkoaaGreatDoor

/- Layer 9 (records): an operation that is fixed stays as it is; great letters and small ones are fixed alike. Plain. -/
namespace Go.Proofs.YthgcnmilaifkoaaGreatDoor
open Go.RowKit

end Go.Proofs.YthgcnmilaifkoaaGreatDoor

/- Layer 9 (records): small facts of operations in memory that the laws use. -/
namespace Go.Proofs.YthgcnmilaifkoaaGreatDoor
open Go.RowKit
set_option linter.unusedVariables false

theorem svcF_lenN (s : Sp) : (svcF s).tags.length ≤ 1048576 := by
 by_cases h : svcE s = 0
 ·rw [svc_yes h]
  show (tagsB s.tags).length ≤ _
  rw [tagsB_len]
  have h1 := (svc_parts h).2.2.2
  by_cases hk : tagsOk s.tags
  ·rw [(tags_yes hk).2]
   refine Nat.le_trans (compact_le _) ?_
   rw [List.length_mergeSort, List.length_map]
   have := hk.1
   omega
  ·rw [(tags_no hk).1] at h1
   cases h1
 ·rw [svc_no h]
  decide
theorem oppF_lenN (o : Opp) : (oppF o).svc.tags.length ≤ 1048576 := by
 unfold oppF
 split
 ·unfold oppN
  split
  ·exact Nat.zero_le _
  split
  ·exact svcF_lenN _
  repeat' split
  all_goals exact Nat.zero_le _
 ·exact Nat.zero_le _
theorem v_oneN (o : Opp) (a : Option Addr) (n c : Nat) : (o.v (.slice a n c)).all (·.oneCell') = true := by simp [Opp.v, Value.oneCell']
theorem wpList_get_opN {ops : Array Oper} {rest : List Oper} {op : Oper} {a : Act} {w : World} {g : Nat} {Q : Exit → Act → World → Prop} {x : Operand} {c : Array Value} (hw : Region.wanted op (yielded ops a.tmps) = true) (ho : op.op = .load 47 x) (hb : Blk w g c 47) (hx : a.eval x = .pointer (some ⟨g, 0, none⟩)) (hs : c.size = 21)
  (h : wpList Tryz.prog ops Q rest (a.put op.dst (.agg c)) w) : wpList Tryz.prog ops Q (op :: rest) a w :=
 wpList_step fun K hK => by
  simp only [hw, if_true]
  exact wp_get_op ho hb hx hs (hK _ _ h)
theorem Blk.off {w : World} {b : Nat} {cs : Array Value} {T : TypeId} (h : Blk w b cs T) {a : Addr} (hne : b ≠ a.block) (u : Value) : Blk (w.setCell a u) b cs T := by
 show (w.setCell a u).heap[b]? = _
 rw [heap_setCell_other _ _ _ _ hne]
 exact h
theorem rowN_set1 {w : World} {B g i : Nat} {e T : TypeId} {size : Nat} {v : Value} {n : Nat} {xs : List Value} {cs : Array Value} (hg : Blk w g cs T) (hT : T ≠ e) (h : w.ownsRow B e size v n xs) (u : Value) : (w.setCell ⟨g, i, none⟩ u).ownsRow B e size v n xs := by
 refine ⟨h.1, ?_⟩
 rcases h.2 with h1 | ⟨g', cap, cur, h1, h2, h3, h4⟩
 ·exact .inl h1
 ·refine .inr ⟨g', cap, cur, h1, h2, ?_, h4⟩
  rw [heap_setCell_other _ _ _ _ (fun e' => by
   have e' : g' = g := e'
   subst e'
   have hg' : w.heap[g']? = some (.cells cs T) := hg
   rw [h3] at hg'
   injection hg' with hg'
   injection hg' with _ hg'
   exact hT hg'.symm)]
  exact h3
end Go.Proofs.YthgcnmilaifkoaaGreatDoor

/- Layer 13 (journal): isOdd. -/
namespace Go.Proofs.YthgcnmilaifkoaaGreatDoor
open Go.RowKit
set_option linter.unusedVariables false

set_option maxRecDepth 100000 in
set_option maxHeartbeats 8000000 in
theorem isOdd_calls (x : OV) (w : World) (hv : Vs w) (hs : x.o.small) (hl : x.o.svc.tags.length ≤ 140737488355328) (ht : CellsAt w x.ta (x.o.svc.tags.map Value.string)) :
  Calls Tryz.prog 38 #[.agg x.v] w fun e w' => e = .returned (.bool (!sndB x.o)) ∧ Below w.heap.size w w' := by
 obtain ⟨o, ta, tc⟩ := x
 have HV : Hid (Vs w) := hv
 have HT : Hid (CellsAt w ta (o.svc.tags.map Value.string)) := ht
 obtain ⟨ne, Hne⟩ : ∃ x, Hid (x = oppE o) := ⟨_, rfl⟩
 obtain ⟨r, Hr⟩ : ∃ x, Hid (x = oppF o) := ⟨_, rfl⟩
 obtain ⟨R, HR⟩ : ∃ x, Hid (x = !sndB o) := ⟨_, rfl⟩
 obtain ⟨D, HD⟩ : ∃ x, Hid (x = sameO o r) := ⟨_, rfl⟩
 have C3 : Hid (∀ ta tc w, CellsAt w ta (o.svc.tags.map Value.string) → Vs w → Calls Tryz.prog 52 #[.agg (o.v (.slice ta o.svc.tags.length tc))] w fun e w' => OppA w r ne e w') := fun ta tc w h h2 => by rw [Hr.out, Hne.out]; exact fixOp_calls o ta tc w hs h h2
 have C4 : Hid (∀ a b ac bc w, CellsAt w a (o.svc.tags.map Value.string) → CellsAt w b (r.svc.tags.map Value.string) → Calls Tryz.prog 53 #[.agg (o.v (.slice a o.svc.tags.length ac)), .agg (r.v (.slice b r.svc.tags.length bc))] w fun e w' => e = .returned (.bool D) ∧ Below w.heap.size w w') := fun a b ac bc w h1 h2 => by rw [HD.out]; exact jsameOp_calls o r a b ac bc w hl (by rw [Hr.out]; have := oppF_lenN o; omega) h1 h2
 have HRE : Hid (R = if ne = 0 then !D else true) := by
  show _ = _
  rw [HR.out, HD.out, Hne.out, Hr.out]
  unfold sndB
  by_cases h : oppE o = 0 <;> simp [h]
 clear Hne Hr HD hs hv ht hl
 simp only [OV.v]
 rw [← HR.out]
 clear HR
 obtain ⟨tl, Htl⟩ : ∃ x, Hid (x = o.svc.tags.length) := ⟨_, rfl⟩
 obtain ⟨fl, Hfl⟩ : ∃ x, Hid (x = r.svc.tags.length) := ⟨_, rfl⟩
 obtain ⟨TL, HTL⟩ : ∃ x, Hid (x = o.svc.tags.map Value.string) := ⟨_, rfl⟩
 obtain ⟨FL, HFL⟩ : ∃ x, Hid (x = r.svc.tags.map Value.string) := ⟨_, rfl⟩
 simp only [OppA] at *
 rw [← Htl.out] at C3 C4 ⊢
 rw [← Hfl.out] at C3 C4
 rw [← HTL.out] at C3 C4 HT
 rw [← HFL.out] at C3 C4
 clear Htl Hfl HTL HFL
 obtain ⟨wx, Hwx⟩ : ∃ x, Hid (x = w.alloc (.cells (o.v (.slice ta tl tc)) 47)) := ⟨_, rfl⟩
 have KA_wx : Hid (Blk wx w.heap.size (o.v (.slice ta tl tc)) 47) := by rw [Hwx.out]; exact Blk.new _ _ _
 have B_wx : Hid (Below w.heap.size w wx) := by rw [Hwx.out]; exact below_new w _
 go_enter Tryz.func38, Tryz.ntmps38
 go_upto_region 1 with fail
 rw [← Hwx.out]
 clear Hwx
 iterate 2 go_step
 refine wp_get_op rfl KA_wx.out rfl rfl ?_
 go_wp2_with fail
 refine (C3.out ta tc wx (HT.out.below B_wx.out) (HV.out.stay B_wx.out)).mono ?_
 rintro e w4 ⟨v, rfl, ho, hb⟩
 obtain ⟨ra, rc, rfl, -⟩ := row_forms ho
 dsimp only
 iterate 14 go_step
 refine wp_store_op rfl rfl rfl rfl rfl rfl (v_oneN _ _ _ _) ?_
 obtain ⟨w5, Hw5⟩ : ∃ x, Hid (x = w4.alloc (.cells (r.v (.slice ra fl rc)) 47)) := ⟨_, rfl⟩
 have hb5 : Below wx.heap.size wx w5 := by rw [Hw5.out]; exact hb.alloc hb.size _
 have KA_w5 : Hid (Blk w5 w.heap.size (o.v (.slice ta tl tc)) 47) := KA_wx.out.below hb5
 have B_w5 : Hid (Below w.heap.size w w5) := B_wx.out.trans (hb5.mono B_wx.out.size)
 obtain ⟨p4, Hp4⟩ : ∃ x, Hid (x = w4.heap.size) := ⟨_, rfl⟩
 have KR_w5 : Hid (Blk w5 p4 (r.v (.slice ra fl rc)) 47) := by rw [Hw5.out, Hp4.out]; exact Blk.new _ _ _
 have RR_w5 : Hid (CellsAt w5 ra FL) := by rw [Hw5.out]; exact CellsAt.below (row_cells ho) (below_new w4 _)
 rw [← Hw5.out, ← Hp4.out]
 clear Hw5 Hp4 hb5 hb ho KA_wx B_wx
 by_cases h0 : ne = 0
 ·have HF : Hid (R = !D) := by show _ = _; rw [HRE.out, if_pos h0]
  clear HRE
  subst h0
  go_upto_region 2 with fail
  iterate 10 go_step
  refine wpList_get_opN (by rfl) rfl KA_w5.out rfl rfl ?_
  refine wpList_get_opN (by rfl) rfl KR_w5.out rfl rfl ?_
  go_wp2_with fail
  refine (C4.out ta ra tc rc w5 (HT.out.below B_w5.out) RR_w5.out).mono ?_
  rintro e w6 ⟨rfl, hb6⟩
  have B_w6 : Hid (Below w.heap.size w w6) := B_w5.out.trans (hb6.mono B_w5.out.size)
  clear hb6 B_w5 KA_w5 KR_w5 RR_w5
  go_wp2
  go_ret
  exact ⟨by rw [HF.out]; rfl, B_w6.out⟩
 ·have HF : Hid (R = true) := by show _ = _; rw [HRE.out, if_neg h0]
  have q : (ne != 0) = true := by simpa using h0
  clear HRE h0
  go_wp2
  go_ret
  exact ⟨by rw [HF.out]; rfl, B_w5.out⟩
end Go.Proofs.YthgcnmilaifkoaaGreatDoor
