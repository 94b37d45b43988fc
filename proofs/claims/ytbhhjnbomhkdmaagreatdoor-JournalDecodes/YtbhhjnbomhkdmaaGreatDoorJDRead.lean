import Derived.Test.YtbhhjnbomhkdmaaGreatDoorRcOb2
import Derived.Test.YtbhhjnbomhkdmaaGreatDoorRcOb4
import Derived.Test.YtbhhjnbomhkdmaaGreatDoorRcOb6
import Derived.Test.YtbhhjnbomhkdmaaGreatDoorJSameE
import Derived.Test.YtbhhjnbomhkdmaaGreatDoorJEqN
import Derived.Test.YtbhhjnbomhkdmaaGreatDoorRcCopyS
import Derived.Test.YtbhhjnbomhkdmaaGreatDoorJStep
import Derived.Test.YtbhhjnbomhkdmaaGreatDoorJPayW
import Derived.Test.YtbhhjnbomhkdmaaGreatDoorKLessB
import Derived.Test.YtbhhjnbomhkdmaaGreatDoorJRopH
/- Layer 9 (records): the document's FixOp, none of the six. -/
namespace Go.Proofs.YtbhhjnbomhkdmaaGreatDoor
open Go.RowKit
set_option linter.unusedVariables false

set_option maxRecDepth 100000 in
set_option maxHeartbeats 8000000 in
theorem fixOpb7_false (o : Opp) (hk : ¬ o.kind = 1 ∧ ¬ o.kind = 2 ∧ ¬ o.kind = 3 ∧ ¬ o.kind = 4 ∧ ¬ o.kind = 5 ∧ ¬ o.kind = 6) (hcas : o.cas = false) (ta : Option Addr) (tc : Nat) (w : World) (hs : o.small) (hna : o.node.addr.size ≤ 1048576) (hc : CellsAt w ta (o.svc.tags.map Value.string)) :
  Calls Tryz.prog 26 #[.agg (o.v (.slice ta o.svc.tags.length tc))] w fun e w' => OppA w (oppF o) (oppE o) e w' := by
 obtain ⟨hn1, hn2, hsv, hck⟩ := hs
 have HSV : Hid (Sp.small o.svc) := hsv
 have HCK : Hid (Ck.small o.chk) := hck
 have HC : Hid (CellsAt w ta (o.svc.tags.map Value.string)) := hc
 clear hsv hck hc
 obtain ⟨hk1, hk2, hk3, hk4, hk5, hk6⟩ := hk
 have HE : Hid (oppE o = 96) := by unfold oppE; rw [Hid, if_neg hk1, if_neg hk2, if_neg hk3, if_neg hk4, if_neg hk5, if_neg hk6]
 have HFn : Hid (oppF o = oppZ) := by unfold oppF; rw [Hid, if_neg (fun e => by rw [HE.out] at e; cases e)]
 rw [HE.out, HFn.out]
 clear HE HFn HSV HCK HC
 obtain ⟨kd, ⟨nn, na, n3, n4⟩, ⟨sn, si, sm, sp, tg, s6, s7⟩, ⟨cn, ci, cs, ct, ce, c6, c7⟩, cas, wt⟩ := o
 simp only [Opp.v] at *
 subst hcas
 have q1 : (kd == 1) = false := by simpa using hk1
 have q2 : (kd == 2) = false := by simpa using hk2
 have q3 : (kd == 3) = false := by simpa using hk3
 have q4 : (kd == 4) = false := by simpa using hk4
 have q5 : (kd == 5) = false := by simpa using hk5
 have q6 : (kd == 6) = false := by simpa using hk6
 clear hk1 hk2 hk3 hk4 hk5 hk6
 generalize tg.length = tl at *
 obtain ⟨b1, b2, b3, b4⟩ := three_new w (.cells (o21 kd nn na n3 n4 sn si sm sp (.slice ta tl tc) s6 s7 cn ci cs ct ce c6 c7 false wt) 54) (.cells z21 54) (.cells (o21 kd ⟨#[]⟩ ⟨#[]⟩ 0 0 ⟨#[]⟩ ⟨#[]⟩ ⟨#[]⟩ 0 (.slice none 0 0) 0 0 ⟨#[]⟩ ⟨#[]⟩ ⟨#[]⟩ 0 ⟨#[]⟩ 0 0 false 0) 54)
 obtain ⟨w3, Hw3⟩ : ∃ w3, Hid (w3 = ((w.alloc (.cells (o21 kd nn na n3 n4 sn si sm sp (.slice ta tl tc) s6 s7 cn ci cs ct ce c6 c7 false wt) 54)).alloc (.cells z21 54)).alloc (.cells (o21 kd ⟨#[]⟩ ⟨#[]⟩ 0 0 ⟨#[]⟩ ⟨#[]⟩ ⟨#[]⟩ 0 (.slice none 0 0) 0 0 ⟨#[]⟩ ⟨#[]⟩ ⟨#[]⟩ 0 ⟨#[]⟩ 0 0 false 0) 54)) := ⟨_, rfl⟩
 have HA3 : Hid (Blk w3 w.heap.size (o21 kd nn na n3 n4 sn si sm sp (.slice ta tl tc) s6 s7 cn ci cs ct ce c6 c7 false wt) 54) := by rw [Hw3.out]; exact b1
 have HR3 : Hid (Blk w3 (w.heap.size + 1) z21 54) := by rw [Hw3.out]; exact b2
 have HF3 : Hid (Blk w3 (w.heap.size + 1 + 1) (o21 kd ⟨#[]⟩ ⟨#[]⟩ 0 0 ⟨#[]⟩ ⟨#[]⟩ ⟨#[]⟩ 0 (.slice none 0 0) 0 0 ⟨#[]⟩ ⟨#[]⟩ ⟨#[]⟩ 0 ⟨#[]⟩ 0 0 false 0) 54) := by rw [Hw3.out]; exact b3
 have HB3 : Hid (Below w.heap.size w w3) := by rw [Hw3.out]; exact b4
 clear b1 b2 b3 b4
 go_enter Tryz.func26, Tryz.ntmps26
 have HZz : Hid (OppA w oppZ 96 (.returned (.tuple #[.agg z21, .int .i64 96])) (w3.setRow (w.heap.size + 1) z21)) := ⟨.slice none 0 0, rfl, World.ownsRow_nil _ _ _ _, below_setRow HB3.out (by omega) _⟩
 have HLd : Hid ((loadVar 54 ⟨(w.heap.size + 1), 0, none⟩).run Tryz.prog (w3.setRow (w.heap.size + 1) z21) = .ok (.agg z21) (w3.setRow (w.heap.size + 1) z21)) := load_op (blk_setRow HR3.out _) rfl
 iterate 36 go_step
 refine wp_store_op rfl ?_ rfl rfl rfl rfl (by simp [Value.oneCell']) ?_
 ·simp only [size_new]
 go_upto_region 20 with fail
 rw [← Hw3.out]
 iterate 8 go_step
 refine wp_put_op rfl HR3.out rfl rfl rfl rfl (by simp [Value.oneCell']) ?_
 go_wp2
 exact ret_box (g := (w.heap.size + 1)) (w := (w3.setRow (w.heap.size + 1) z21)) (e := .int .i64 96) rfl rfl rfl rfl HLd.out HZz.out
set_option maxRecDepth 100000 in
set_option maxHeartbeats 8000000 in
theorem fixOpb7_true (o : Opp) (hk : ¬ o.kind = 1 ∧ ¬ o.kind = 2 ∧ ¬ o.kind = 3 ∧ ¬ o.kind = 4 ∧ ¬ o.kind = 5 ∧ ¬ o.kind = 6) (hcas : o.cas = true) (ta : Option Addr) (tc : Nat) (w : World) (hs : o.small) (hna : o.node.addr.size ≤ 1048576) (hc : CellsAt w ta (o.svc.tags.map Value.string)) :
  Calls Tryz.prog 26 #[.agg (o.v (.slice ta o.svc.tags.length tc))] w fun e w' => OppA w (oppF o) (oppE o) e w' := by
 obtain ⟨hn1, hn2, hsv, hck⟩ := hs
 have HSV : Hid (Sp.small o.svc) := hsv
 have HCK : Hid (Ck.small o.chk) := hck
 have HC : Hid (CellsAt w ta (o.svc.tags.map Value.string)) := hc
 clear hsv hck hc
 obtain ⟨hk1, hk2, hk3, hk4, hk5, hk6⟩ := hk
 have HE : Hid (oppE o = 96) := by unfold oppE; rw [Hid, if_neg hk1, if_neg hk2, if_neg hk3, if_neg hk4, if_neg hk5, if_neg hk6]
 have HFn : Hid (oppF o = oppZ) := by unfold oppF; rw [Hid, if_neg (fun e => by rw [HE.out] at e; cases e)]
 rw [HE.out, HFn.out]
 clear HE HFn HSV HCK HC
 obtain ⟨kd, ⟨nn, na, n3, n4⟩, ⟨sn, si, sm, sp, tg, s6, s7⟩, ⟨cn, ci, cs, ct, ce, c6, c7⟩, cas, wt⟩ := o
 simp only [Opp.v] at *
 subst hcas
 have q1 : (kd == 1) = false := by simpa using hk1
 have q2 : (kd == 2) = false := by simpa using hk2
 have q3 : (kd == 3) = false := by simpa using hk3
 have q4 : (kd == 4) = false := by simpa using hk4
 have q5 : (kd == 5) = false := by simpa using hk5
 have q6 : (kd == 6) = false := by simpa using hk6
 clear hk1 hk2 hk3 hk4 hk5 hk6
 generalize tg.length = tl at *
 obtain ⟨b1, b2, b3, b4⟩ := three_new w (.cells (o21 kd nn na n3 n4 sn si sm sp (.slice ta tl tc) s6 s7 cn ci cs ct ce c6 c7 true wt) 54) (.cells z21 54) (.cells (o21 kd ⟨#[]⟩ ⟨#[]⟩ 0 0 ⟨#[]⟩ ⟨#[]⟩ ⟨#[]⟩ 0 (.slice none 0 0) 0 0 ⟨#[]⟩ ⟨#[]⟩ ⟨#[]⟩ 0 ⟨#[]⟩ 0 0 true wt) 54)
 obtain ⟨w3, Hw3⟩ : ∃ w3, Hid (w3 = ((w.alloc (.cells (o21 kd nn na n3 n4 sn si sm sp (.slice ta tl tc) s6 s7 cn ci cs ct ce c6 c7 true wt) 54)).alloc (.cells z21 54)).alloc (.cells (o21 kd ⟨#[]⟩ ⟨#[]⟩ 0 0 ⟨#[]⟩ ⟨#[]⟩ ⟨#[]⟩ 0 (.slice none 0 0) 0 0 ⟨#[]⟩ ⟨#[]⟩ ⟨#[]⟩ 0 ⟨#[]⟩ 0 0 true wt) 54)) := ⟨_, rfl⟩
 have HA3 : Hid (Blk w3 w.heap.size (o21 kd nn na n3 n4 sn si sm sp (.slice ta tl tc) s6 s7 cn ci cs ct ce c6 c7 true wt) 54) := by rw [Hw3.out]; exact b1
 have HR3 : Hid (Blk w3 (w.heap.size + 1) z21 54) := by rw [Hw3.out]; exact b2
 have HF3 : Hid (Blk w3 (w.heap.size + 1 + 1) (o21 kd ⟨#[]⟩ ⟨#[]⟩ 0 0 ⟨#[]⟩ ⟨#[]⟩ ⟨#[]⟩ 0 (.slice none 0 0) 0 0 ⟨#[]⟩ ⟨#[]⟩ ⟨#[]⟩ 0 ⟨#[]⟩ 0 0 true wt) 54) := by rw [Hw3.out]; exact b3
 have HB3 : Hid (Below w.heap.size w w3) := by rw [Hw3.out]; exact b4
 clear b1 b2 b3 b4
 go_enter Tryz.func26, Tryz.ntmps26
 have HZz : Hid (OppA w oppZ 96 (.returned (.tuple #[.agg z21, .int .i64 96])) (w3.setRow (w.heap.size + 1) z21)) := ⟨.slice none 0 0, rfl, World.ownsRow_nil _ _ _ _, below_setRow HB3.out (by omega) _⟩
 have HLd : Hid ((loadVar 54 ⟨(w.heap.size + 1), 0, none⟩).run Tryz.prog (w3.setRow (w.heap.size + 1) z21) = .ok (.agg z21) (w3.setRow (w.heap.size + 1) z21)) := load_op (blk_setRow HR3.out _) rfl
 iterate 36 go_step
 refine wp_store_op rfl ?_ rfl rfl rfl rfl (by simp [Value.oneCell']) ?_
 ·simp only [size_new]
 go_upto_region 20 with fail
 rw [← Hw3.out]
 iterate 8 go_step
 refine wp_put_op rfl HR3.out rfl rfl rfl rfl (by simp [Value.oneCell']) ?_
 go_wp2
 exact ret_box (g := (w.heap.size + 1)) (w := (w3.setRow (w.heap.size + 1) z21)) (e := .int .i64 96) rfl rfl rfl rfl HLd.out HZz.out
end Go.Proofs.YtbhhjnbomhkdmaaGreatDoor

/- Layer 9 (records): the document's FixOp, whole. -/
namespace Go.Proofs.YtbhhjnbomhkdmaaGreatDoor
open Go.RowKit

theorem refFixOp_calls (o : Opp) (ta : Option Addr) (tc : Nat) (w : World) (hs : o.small) (hna : o.node.addr.size ≤ 1048576) (hc : CellsAt w ta (o.svc.tags.map Value.string)) :
  Calls Tryz.prog 26 #[.agg (o.v (.slice ta o.svc.tags.length tc))] w fun e w' => OppA w (oppF o) (oppE o) e w' := by
 rcases hb : o.cas
 ·by_cases h1 : o.kind = 1
  ·exact fixOpb1_false o h1 hb ta tc w hs hna hc
  by_cases h2 : o.kind = 2
  ·exact fixOpb2_false o h2 hb ta tc w hs hna hc
  by_cases h3 : o.kind = 3
  ·exact fixOpb3_false o h3 hb ta tc w hs hna hc
  by_cases h4 : o.kind = 4
  ·exact fixOpb4_false o h4 hb ta tc w hs hna hc
  by_cases h5 : o.kind = 5
  ·exact fixOpb5_false o h5 hb ta tc w hs hna hc
  by_cases h6 : o.kind = 6
  ·exact fixOpb6_false o h6 hb ta tc w hs hna hc
  exact fixOpb7_false o ⟨h1, h2, h3, h4, h5, h6⟩ hb ta tc w hs hna hc
 ·by_cases h1 : o.kind = 1
  ·exact fixOpb1_true o h1 hb ta tc w hs hna hc
  by_cases h2 : o.kind = 2
  ·exact fixOpb2_true o h2 hb ta tc w hs hna hc
  by_cases h3 : o.kind = 3
  ·exact fixOpb3_true o h3 hb ta tc w hs hna hc
  by_cases h4 : o.kind = 4
  ·exact fixOpb4_true o h4 hb ta tc w hs hna hc
  by_cases h5 : o.kind = 5
  ·exact fixOpb5_true o h5 hb ta tc w hs hna hc
  by_cases h6 : o.kind = 6
  ·exact fixOpb6_true o h6 hb ta tc w hs hna hc
  exact fixOpb7_true o ⟨h1, h2, h3, h4, h5, h6⟩ hb ta tc w hs hna hc
end Go.Proofs.YtbhhjnbomhkdmaaGreatDoor

/- Layer 13 (journal): the document's Sound. -/
namespace Go.Proofs.YtbhhjnbomhkdmaaGreatDoor
open Go.RowKit
set_option linter.unusedVariables false

theorem sameO_comm (a b : Opp) : sameO a b = sameO b a := by
 rw [Bool.eq_iff_iff, sameO_iff, sameO_iff]
 exact eq_comm
set_option maxRecDepth 100000 in
set_option maxHeartbeats 8000000 in
theorem rsound_calls (i : Int) (ao : Option Addr) (c : Nat) (l : List OV) (w : World) (hl : l.length ≤ 140737488355328) (hok : ∀ x ∈ l, x.ok) (hna : ∀ x ∈ l, x.o.node.addr.size ≤ 1048576) (hat : OpsAt w ao l) :
  Calls Tryz.prog 13 #[.agg #[.int .u64 i, .slice ao l.length c]] w fun e w' => e = .returned (.bool (soundB (ops l))) ∧ Below w.heap.size w w' := by
 have HK : Hid (∀ k (h : k < l.length), (l[k]'h).ok ∧ (l[k]'h).o.node.addr.size ≤ 1048576) := fun k h => ⟨hok _ (List.getElem_mem h), hna _ (List.getElem_mem h)⟩
 have HAT : Hid (OpsAt w ao l) := hat
 clear hok hna hat
 obtain ⟨S, HS⟩ : ∃ x, Hid (x = soundB (ops l)) := ⟨_, rfl⟩
 rw [← HS.out]
 have HSE : Hid (S = (decide (1 ≤ l.length ∧ l.length ≤ 64) && (ops l).all sndB)) := by
  show _ = _
  rw [HS.out]
  unfold soundB
  simp [ops]
 clear HS
 obtain ⟨n, Hn⟩ : ∃ x, Hid (x = l.length) := ⟨_, rfl⟩
 rw [← Hn.out] at hl HSE ⊢
 obtain ⟨wx, Hwx⟩ : ∃ x, Hid (x = w.alloc (.cells #[.int .u64 i, .slice ao n c] 27)) := ⟨_, rfl⟩
 have HX : Hid (Blk wx w.heap.size #[.int .u64 i, .slice ao n c] 27) := by rw [Hwx.out]; exact Blk.new _ _ _
 have HB : Hid (Below w.heap.size w wx) := by rw [Hwx.out]; exact below_new w _
 go_enter Tryz.func13, Tryz.ntmps13
 go_upto_region 1 with fail
 rw [← Hwx.out]
 clear Hwx
 have c1 := HX.out.cell 1 rfl
 by_cases h1 : n < 1
 ·have HF : Hid (S = false) := by
   show _ = _
   rw [HSE.out]
   have : ¬ (1 ≤ n ∧ n ≤ 64) := by omega
   simp [this]
  have q1 : decide ((n : Int) < 1) = true := by simp; omega
  go_wp2
  go_ret
  exact ⟨by rw [HF.out]; rfl, HB.out⟩
 have q1 : decide ((n : Int) < 1) = false := by simp; omega
 by_cases h2 : 64 < n
 ·have HF : Hid (S = false) := by
   show _ = _
   rw [HSE.out]
   have : ¬ (1 ≤ n ∧ n ≤ 64) := by omega
   simp [this]
  have q2 : decide ((64 : Int) < (n : Int)) = true := by simp; omega
  go_wp2
  go_ret
  exact ⟨by rw [HF.out]; rfl, HB.out⟩
 have q2 : decide ((64 : Int) < (n : Int)) = false := by simp; omega
 have HSA : Hid (S = (ops l).all sndB) := by
  show _ = _
  rw [HSE.out]
  have : (1 ≤ n ∧ n ≤ 64) := by omega
  simp [this]
 clear HSE
 go_wp2
 clear q1 q2 c1
 go_loopw [20] (fun i' wr => ∃ k : Nat, k ≤ n ∧ i' = .int .i64 k ∧ Hid ((ops (l.take k)).all sndB = true) ∧ Hid (Below w.heap.size w wr)) (fun i' _ => n - (intOf i').toNat)
 case atStart => exact ⟨0, Nat.zero_le _, rfl, by simp [ops, Hid], HB⟩
 case round =>
  obtain ⟨k, hk, rfl, HA, HBr⟩ := hrel
  by_cases hlt : k < n
  ·have hkl : k < l.length := by rw [← Hn.out]; exact hlt
   obtain ⟨b, off, rfl, hrange⟩ := (HAT.out.below HBr.out).at k hkl
   obtain ⟨y, Hy⟩ : ∃ y, Hid (y = l[k]'hkl) := ⟨_, rfl⟩
   have HTG : Hid (CellsAt wr y.ta (y.o.svc.tags.map Value.string)) := by rw [Hy.out]; exact (HAT.out.below HBr.out).tags _ (List.getElem_mem hkl)
   have HRG : Hid (wr.rangeAt b (off + k * 21) y.v.toList) := by rw [Hy.out]; exact hrange
   have HYK : Hid (y.ok ∧ y.o.node.addr.size ≤ 1048576) := by rw [Hy.out]; exact HK.out k hkl
   have HA2 : Hid (sndB y.o = true → (ops (l.take (k + 1))).all sndB = true) := fun h => by
    rw [ops_take l k hkl, List.all_append, HA.out, ← Hy.out]
    simp [h]
   have HA3 : Hid (sndB y.o = false → S = false) := fun h => by
    rw [HSA.out, List.all_eq_false]
    exact ⟨y.o, by rw [Hy.out]; exact List.mem_map.2 ⟨_, List.getElem_mem hkl, rfl⟩, by rw [h]; simp⟩
   clear Hy hkl hrange HA
   have hBr := HBr.out.size
   obtain ⟨o, ta, tc⟩ := y
   obtain ⟨ne, Hne⟩ : ∃ x, Hid (x = oppE o) := ⟨_, rfl⟩
   obtain ⟨r, Hr⟩ : ∃ x, Hid (x = oppF o) := ⟨_, rfl⟩
   obtain ⟨D, HD⟩ : ∃ x, Hid (x = sameO r o) := ⟨_, rfl⟩
   have C3 : Hid (∀ w, CellsAt w ta (o.svc.tags.map Value.string) → Calls Tryz.prog 26 #[.agg (o.v (.slice ta o.svc.tags.length tc))] w fun e w' => OppA w r ne e w') := fun w h => by rw [Hr.out, Hne.out]; exact refFixOp_calls o ta tc w HYK.out.1.small HYK.out.2 h
   have C4 : Hid (∀ a b ac bc w, CellsAt w a (r.svc.tags.map Value.string) → CellsAt w b (o.svc.tags.map Value.string) → Calls Tryz.prog 24 #[.agg (r.v (.slice a r.svc.tags.length ac)), .agg (o.v (.slice b o.svc.tags.length bc))] w fun e w' => e = .returned (.bool D) ∧ Below w.heap.size w w') := fun a b ac bc w h1 h2 => by rw [HD.out]; exact rsameOp_calls r o a b ac bc w (by rw [Hr.out]; have := oppF_lenN o; have := HYK.out.1.len; dsimp only at this; omega) HYK.out.1.len h1 h2
   have HRE : Hid (sndB o = if ne = 0 then D else false) := by
    show _ = _
    rw [HD.out, Hne.out, Hr.out, sameO_comm]
    unfold sndB
    by_cases h : oppE o = 0 <;> simp [h]
   have HT : Hid (CellsAt wr ta (o.svc.tags.map Value.string)) := HTG
   have HRG2 : Hid (wr.rangeAt b (off + k * 21) (OV.v ⟨o, ta, tc⟩).toList) := HRG
   clear Hne Hr HD HTG HRG HYK
   go_upto_region 5 with fail
   iterate 5 go_step
   refine wp_load_ov rfl rfl HRG2.out ?_
   simp only [OV.v]
   obtain ⟨tl, Htl⟩ : ∃ x, Hid (x = o.svc.tags.length) := ⟨_, rfl⟩
   obtain ⟨fl, Hfl⟩ : ∃ x, Hid (x = r.svc.tags.length) := ⟨_, rfl⟩
   obtain ⟨TL, HTL⟩ : ∃ x, Hid (x = o.svc.tags.map Value.string) := ⟨_, rfl⟩
   obtain ⟨FL, HFL⟩ : ∃ x, Hid (x = r.svc.tags.map Value.string) := ⟨_, rfl⟩
   simp only [OppA] at C3
   rw [← Htl.out] at C3 C4 ⊢
   rw [← Hfl.out] at C3 C4
   rw [← HTL.out] at C3 C4 HT
   rw [← HFL.out] at C3 C4
   clear Htl Hfl HTL HFL HRG2
   iterate 5 go_step
   refine wp_store_op rfl rfl rfl rfl rfl rfl (v_oneN _ _ _ _) ?_
   obtain ⟨w3, Hw3⟩ : ∃ x, Hid (x = wr.alloc (.cells (o.v (.slice ta tl tc)) 54)) := ⟨_, rfl⟩
   have KA3 : Hid (Blk w3 wr.heap.size (o.v (.slice ta tl tc)) 54) := by rw [Hw3.out]; exact Blk.new _ _ _
   have HB3 : Hid (Below w.heap.size w w3) := by rw [Hw3.out]; exact HBr.out.alloc hBr _
   have HT3 : Hid (CellsAt w3 ta TL) := by rw [Hw3.out]; exact HT.out.below (below_new _ _)
   rw [← Hw3.out]
   clear Hw3 HBr HT
   go_upto_region 6 with fail
   iterate 2 go_step
   refine wp_get_op rfl KA3.out rfl rfl ?_
   go_wp2_with fail
   refine (C3.out w3 HT3.out).mono ?_
   rintro e w4 ⟨v, rfl, ho, hb⟩
   obtain ⟨ra, rc, rfl, -⟩ := row_forms ho
   dsimp only
   iterate 14 go_step
   refine wp_store_op rfl rfl rfl rfl rfl rfl (v_oneN _ _ _ _) ?_
   obtain ⟨w5, Hw5⟩ : ∃ x, Hid (x = w4.alloc (.cells (r.v (.slice ra fl rc)) 54)) := ⟨_, rfl⟩
   have hb5 : Below w3.heap.size w3 w5 := by rw [Hw5.out]; exact hb.alloc hb.size _
   have KA5 : Hid (Blk w5 wr.heap.size (o.v (.slice ta tl tc)) 54) := KA3.out.below hb5
   have HB5 : Hid (Below w.heap.size w w5) := HB3.out.trans (hb5.mono HB3.out.size)
   have HT5 : Hid (CellsAt w5 ta TL) := HT3.out.below hb5
   obtain ⟨p4, Hp4⟩ : ∃ x, Hid (x = w4.heap.size) := ⟨_, rfl⟩
   have KR5 : Hid (Blk w5 p4 (r.v (.slice ra fl rc)) 54) := by rw [Hw5.out, Hp4.out]; exact Blk.new _ _ _
   have RR5 : Hid (CellsAt w5 ra FL) := by rw [Hw5.out]; exact CellsAt.below (row_cells ho) (below_new w4 _)
   rw [← Hw5.out, ← Hp4.out]
   clear Hw5 Hp4 hb5 hb ho KA3 HB3 HT3
   by_cases h0 : ne = 0
   ·have HF : Hid (sndB o = D) := by show _ = _; rw [HRE.out, if_pos h0]
    clear HRE
    subst h0
    go_upto_region 7 with fail
    iterate 10 go_step
    refine wpList_get_opN (by rfl) rfl KR5.out rfl rfl ?_
    refine wpList_get_opN (by rfl) rfl KA5.out rfl rfl ?_
    go_wp2_with fail
    refine (C4.out ra ta rc tc w5 RR5.out HT5.out).mono ?_
    rintro e w6 ⟨rfl, hb6⟩
    have HB6 : Hid (Below w.heap.size w w6) := HB5.out.trans (hb6.mono HB5.out.size)
    clear hb6 HB5 KA5 KR5 RR5 HT5 C3 C4
    cases D with
    | true =>
     have HA4 : Hid ((ops (l.take (k + 1))).all sndB = true) := HA2.out HF.out
     go_wp2
     go_roundw
     case rel => exact ⟨k + 1, by omega, by go_num, HA4, HB6⟩
     case measure => simp [intOf]; omega
    | false =>
     have HA4 : Hid (S = false) := HA3.out HF.out
     go_wp2
     go_ret
     exact ⟨by rw [HA4.out]; rfl, HB6.out⟩
   ·have HA4 : Hid (S = false) := HA3.out (by show sndB o = false; rw [HRE.out, if_neg h0])
    have q : (ne != 0) = true := by simpa using h0
    clear HRE h0
    go_wp2
    go_ret
    exact ⟨by rw [HA4.out]; rfl, HB5.out⟩
  ·obtain rfl : k = n := by omega
   have HF : Hid (S = true) := by
    show _ = _
    rw [HSA.out]
    have := HA.out
    rw [List.take_of_length_le (by rw [← Hn.out]; omega)] at this
    exact this
   go_wp2
   go_ret
   exact ⟨by rw [HF.out]; rfl, HBr.out⟩
end Go.Proofs.YtbhhjnbomhkdmaaGreatDoor

/- Layer 13 (journal): the document's Read. -/
namespace Go.Proofs.YtbhhjnbomhkdmaaGreatDoor
open Go.RowKit
set_option linter.unusedVariables false

/-- What the document's Read answers. -/
def RReadA (w : World) (p : List UInt8) (e : Ending) (w' : World) : Prop := Below w.heap.size w w' ∧
  ((readOk p = true ∧ ∃ ao c l', e = .returned (.tuple #[.agg #[.int .u64 (readI p : Nat), .slice ao l'.length c], .bool true]) ∧ ops l' = (readO p).1 ∧ OwnO w' w.heap.size (.slice ao l'.length c) l') ∨
   (readOk p = false ∧ e = .returned (.tuple #[.agg #[.int .u64 0, .slice none 0 0], .bool false])))
/-- What stands between two steps of Read. -/
structure DR (w : World) (g2 ge : Nat) (i : Int) (v : Value) (m : List OV) (W : World) : Prop where
 bl : Below w.heap.size w W
 e : Blk W ge #[.int .u64 i, v] 27
 z : Blk W g2 #[.int .u64 0, .slice none 0 0] 27
 own : OwnO W w.heap.size v m
theorem DR.below {w W W' : World} {g2 ge : Nat} {i : Int} {v : Value} {m : List OV} (h : DR w g2 ge i v m W) (hb : Below W.heap.size W W') : DR w g2 ge i v m W' :=
 ⟨h.bl.trans (hb.mono h.bl.size), h.e.below hb, h.z.below hb, h.own.below hb⟩
theorem DR.push {w W w7 : World} {g2 ge k : Nat} {i : Int} {v v7 : Value} {m : List OV} {z : OV} (h : DR w g2 ge i v m W) (hk : m.length = k) (hge : w.heap.size ≤ ge) (h2 : g2 ≠ ge) (ht : TagO W w.heap.size z) (ho : w7.ownsRow w.heap.size 54 21 v7 (k + 1) (ocs m ++ z.v.toList)) (hg : Grew W w7 v v7) : DR w g2 ge i v7 (m ++ [z]) (w7.setCell ⟨ge, 1, none⟩ v7) := by
 have hE : Blk w7 ge #[.int .u64 i, v] 27 := row_grewB h.e h.own.row hg (by decide)
 have hZ : Blk w7 g2 #[.int .u64 0, .slice none 0 0] 27 := row_grewB h.z h.own.row hg (by decide)
 have hO : OwnO w7 w.heap.size v7 (m ++ [z]) := h.own.push ht (by rw [hk]; exact ho) hg
 have hB : Below w.heap.size w w7 := h.bl.trans (hg.toBelow h.bl.size fun k hk => (World.ownsRow.lt h.own.row k hk).1)
 refine ⟨hB.setCell (p := ⟨ge, 1, none⟩) hge _, ?_, hZ.off (a := ⟨ge, 1, none⟩) (by simp; exact h2) _, ⟨rowN_set1 hE (by decide) hO.row _, fun x hx => rowN_set1 hE (by decide) (hO.tags x hx) _⟩⟩
 have := hE.put 1 v7
 simpa using this
theorem DR.idx {w W : World} {g2 ge : Nat} {i j : Int} {v : Value} {m : List OV} (h : DR w g2 ge i v m W) (hge : w.heap.size ≤ ge) (h2 : g2 ≠ ge) : DR w g2 ge j v m (W.setCell ⟨ge, 0, none⟩ (.int .u64 j)) := by
 refine ⟨h.bl.setCell (p := ⟨ge, 0, none⟩) hge _, ?_, h.z.off (a := ⟨ge, 0, none⟩) (by simp; exact h2) _, ⟨rowN_set1 h.e (by decide) h.own.row _, fun x hx => rowN_set1 h.e (by decide) (h.own.tags x hx) _⟩⟩
 have := h.e.put 0 (.int .u64 j)
 simpa using this
theorem wp_append_ov {o : Oper} {a : Act} {K : Act → World → Prop} {Q : Exit → Act → World → Prop} (s x : Operand) (z : OV) {B n : Nat} {v : Value} {l : List Value} (W1 : World) (ho : o.op = .call { callee := .builtin .append, args := #[s, x], argTypes := #[25, 25] })
  (hs : a.eval s = v) (hown : W1.ownsRow B 54 21 v n l) (hx : a.eval x = .slice (some ⟨W1.heap.size, 0, none⟩) 1 1) (hlen : (n + 1) * 256 ≤ 140737488355328) (hB : B ≤ W1.heap.size)
  (h : ∀ v' w', w'.ownsRow B 54 21 v' (n + 1) (l ++ z.v.toList) → Grew W1 w' v v' → K (a.put o.dst v') w') :
  Oper.wp Tryz.prog o a (W1.alloc (.cells z.v 54)) K Q := by
 obtain ⟨i0, hi, hz0, hz1, hz2⟩ := info_parts info_opz
 obtain ⟨v', w', hr, h2, h3, _⟩ := run_append_grew (P := Tryz.prog) (W1.alloc (.cells z.v 54)) B 25 o.type 54 i0 _ 21 256 Tryz.underlying25 hi hz0 hz1 hz2 rfl (by decide) v n l (row_below hown (below_new _ _)) ⟨W1.heap.size, 0, none⟩ 1 1 z.v.toList rfl (fun j u hj => by
  rw [Addr.add_mid, Nat.zero_add, World.cell?_alloc_mark]
  simpa using hj) (ocs_one z) (by unfold maxLen; omega) (by omega) (by simp; omega)
 unfold Oper.wp execOp
 simp only [ho, resolve, invoke, builtin, Sem.run_bind, Sem.run_pure, Result.andThen_ok, List.map_toArray, List.map_cons, List.map_nil, hs, hx, hr]
 exact h v' w' h2 h3.ofAlloc
end Go.Proofs.YtbhhjnbomhkdmaaGreatDoor
