import Derived.Test.YthgcnmilaifkoaaGreatDoorRcOb2
import Derived.Test.YthgcnmilaifkoaaGreatDoorRcOb4
import Derived.Test.YthgcnmilaifkoaaGreatDoorRcOb5
import Derived.Test.YthgcnmilaifkoaaGreatDoorRcOb6
import Derived.Test.YthgcnmilaifkoaaGreatDoorJEqP
import Derived.Test.YthgcnmilaifkoaaGreatDoorRcOa1
import Derived.Test.YthgcnmilaifkoaaGreatDoorJReadP
import Derived.Test.YthgcnmilaifkoaaGreatDoorJOdd
import Derived.Test.YthgcnmilaifkoaaGreatDoorJSum
import Derived.Test.YthgcnmilaifkoaaGreatDoorJRopH
import Derived.Test.YthgcnmilaifkoaaGreatDoorJPay
import Derived.Test.YthgcnmilaifkoaaGreatDoorRcCopyS
import Derived.Test.YthgcnmilaifkoaaGreatDoorJRPay
import Derived.Test.YthgcnmilaifkoaaGreatDoorJRn1
/- Layer 9 (records): the document's FixOp, none of the six. -/
namespace Go.Proofs.YthgcnmilaifkoaaGreatDoor
open Go.RowKit
set_option linter.unusedVariables false

set_option maxRecDepth 100000 in
set_option maxHeartbeats 8000000 in
theorem fixOpb7_false (o : Opp) (hk : ¬ o.kind = 1 ∧ ¬ o.kind = 2 ∧ ¬ o.kind = 3 ∧ ¬ o.kind = 4 ∧ ¬ o.kind = 5 ∧ ¬ o.kind = 6) (hcas : o.cas = false) (ta : Option Addr) (tc : Nat) (w : World) (hs : o.small) (hna : o.node.addr.size ≤ 1048576) (hc : CellsAt w ta (o.svc.tags.map Value.string)) :
  Calls Tryz.prog 15 #[.agg (o.v (.slice ta o.svc.tags.length tc))] w fun e w' => OppA w (oppF o) (oppE o) e w' := by
 obtain ⟨hn1, hn2, hsv, hck⟩ := hs
 have HSV : Hid (Sp.small o.svc) := hsv
 have HCK : Hid (Ck.small o.chk) := hck
 have HC : Hid (CellsAt w ta (o.svc.tags.map Value.string)) := hc
 clear hsv hck hc
 obtain ⟨hk1, hk2, hk3, hk4, hk5, hk6⟩ := hk
 have HE : Hid (oppE o = 96) := by unfold oppE; rw [Hid, if_neg hk1, if_neg hk2, if_neg hk3, if_neg hk4, if_neg hk5, if_neg hk6]
 have HFn : Hid (oppF o = oppZ) := by unfold oppF; rw [Hid, if_neg (fun e => by rw [HE.out] at e; cases e)]
 rw [HE.out, HFn.out]
 clear HE HFn HSV HCK HC
 obtain ⟨kd, ⟨nn, na, n3, n4⟩, ⟨sn, si, sm, sp, tg, s6, s7⟩, ⟨cn, ci, cs, ct, ce, c6, c7⟩, cas, wt⟩ := o
 simp only [Opp.v] at *
 subst hcas
 have q1 : (kd == 1) = false := by simpa using hk1
 have q2 : (kd == 2) = false := by simpa using hk2
 have q3 : (kd == 3) = false := by simpa using hk3
 have q4 : (kd == 4) = false := by simpa using hk4
 have q5 : (kd == 5) = false := by simpa using hk5
 have q6 : (kd == 6) = false := by simpa using hk6
 clear hk1 hk2 hk3 hk4 hk5 hk6
 generalize tg.length = tl at *
 obtain ⟨b1, b2, b3, b4⟩ := three_new w (.cells (o21 kd nn na n3 n4 sn si sm sp (.slice ta tl tc) s6 s7 cn ci cs ct ce c6 c7 false wt) 47) (.cells z21 47) (.cells (o21 kd ⟨#[]⟩ ⟨#[]⟩ 0 0 ⟨#[]⟩ ⟨#[]⟩ ⟨#[]⟩ 0 (.slice none 0 0) 0 0 ⟨#[]⟩ ⟨#[]⟩ ⟨#[]⟩ 0 ⟨#[]⟩ 0 0 false 0) 47)
 obtain ⟨w3, Hw3⟩ : ∃ w3, Hid (w3 = ((w.alloc (.cells (o21 kd nn na n3 n4 sn si sm sp (.slice ta tl tc) s6 s7 cn ci cs ct ce c6 c7 false wt) 47)).alloc (.cells z21 47)).alloc (.cells (o21 kd ⟨#[]⟩ ⟨#[]⟩ 0 0 ⟨#[]⟩ ⟨#[]⟩ ⟨#[]⟩ 0 (.slice none 0 0) 0 0 ⟨#[]⟩ ⟨#[]⟩ ⟨#[]⟩ 0 ⟨#[]⟩ 0 0 false 0) 47)) := ⟨_, rfl⟩
 have HA3 : Hid (Blk w3 w.heap.size (o21 kd nn na n3 n4 sn si sm sp (.slice ta tl tc) s6 s7 cn ci cs ct ce c6 c7 false wt) 47) := by rw [Hw3.out]; exact b1
 have HR3 : Hid (Blk w3 (w.heap.size + 1) z21 47) := by rw [Hw3.out]; exact b2
 have HF3 : Hid (Blk w3 (w.heap.size + 1 + 1) (o21 kd ⟨#[]⟩ ⟨#[]⟩ 0 0 ⟨#[]⟩ ⟨#[]⟩ ⟨#[]⟩ 0 (.slice none 0 0) 0 0 ⟨#[]⟩ ⟨#[]⟩ ⟨#[]⟩ 0 ⟨#[]⟩ 0 0 false 0) 47) := by rw [Hw3.out]; exact b3
 have HB3 : Hid (Below w.heap.size w w3) := by rw [Hw3.out]; exact b4
 clear b1 b2 b3 b4
 go_enter Tryz.func15, Tryz.ntmps15
 have HZz : Hid (OppA w oppZ 96 (.returned (.tuple #[.agg z21, .int .i64 96])) (w3.setRow (w.heap.size + 1) z21)) := ⟨.slice none 0 0, rfl, World.ownsRow_nil _ _ _ _, below_setRow HB3.out (by omega) _⟩
 have HLd : Hid ((loadVar 47 ⟨(w.heap.size + 1), 0, none⟩).run Tryz.prog (w3.setRow (w.heap.size + 1) z21) = .ok (.agg z21) (w3.setRow (w.heap.size + 1) z21)) := load_op (blk_setRow HR3.out _) rfl
 iterate 36 go_step
 refine wp_store_op rfl ?_ rfl rfl rfl rfl (by simp [Value.oneCell']) ?_
 ·simp only [size_new]
 go_upto_region 20 with fail
 rw [← Hw3.out]
 iterate 8 go_step
 refine wp_put_op rfl HR3.out rfl rfl rfl rfl (by simp [Value.oneCell']) ?_
 go_wp2
 exact ret_box (g := (w.heap.size + 1)) (w := (w3.setRow (w.heap.size + 1) z21)) (e := .int .i64 96) rfl rfl rfl rfl HLd.out HZz.out
set_option maxRecDepth 100000 in
set_option maxHeartbeats 8000000 in
theorem fixOpb7_true (o : Opp) (hk : ¬ o.kind = 1 ∧ ¬ o.kind = 2 ∧ ¬ o.kind = 3 ∧ ¬ o.kind = 4 ∧ ¬ o.kind = 5 ∧ ¬ o.kind = 6) (hcas : o.cas = true) (ta : Option Addr) (tc : Nat) (w : World) (hs : o.small) (hna : o.node.addr.size ≤ 1048576) (hc : CellsAt w ta (o.svc.tags.map Value.string)) :
  Calls Tryz.prog 15 #[.agg (o.v (.slice ta o.svc.tags.length tc))] w fun e w' => OppA w (oppF o) (oppE o) e w' := by
 obtain ⟨hn1, hn2, hsv, hck⟩ := hs
 have HSV : Hid (Sp.small o.svc) := hsv
 have HCK : Hid (Ck.small o.chk) := hck
 have HC : Hid (CellsAt w ta (o.svc.tags.map Value.string)) := hc
 clear hsv hck hc
 obtain ⟨hk1, hk2, hk3, hk4, hk5, hk6⟩ := hk
 have HE : Hid (oppE o = 96) := by unfold oppE; rw [Hid, if_neg hk1, if_neg hk2, if_neg hk3, if_neg hk4, if_neg hk5, if_neg hk6]
 have HFn : Hid (oppF o = oppZ) := by unfold oppF; rw [Hid, if_neg (fun e => by rw [HE.out] at e; cases e)]
 rw [HE.out, HFn.out]
 clear HE HFn HSV HCK HC
 obtain ⟨kd, ⟨nn, na, n3, n4⟩, ⟨sn, si, sm, sp, tg, s6, s7⟩, ⟨cn, ci, cs, ct, ce, c6, c7⟩, cas, wt⟩ := o
 simp only [Opp.v] at *
 subst hcas
 have q1 : (kd == 1) = false := by simpa using hk1
 have q2 : (kd == 2) = false := by simpa using hk2
 have q3 : (kd == 3) = false := by simpa using hk3
 have q4 : (kd == 4) = false := by simpa using hk4
 have q5 : (kd == 5) = false := by simpa using hk5
 have q6 : (kd == 6) = false := by simpa using hk6
 clear hk1 hk2 hk3 hk4 hk5 hk6
 generalize tg.length = tl at *
 obtain ⟨b1, b2, b3, b4⟩ := three_new w (.cells (o21 kd nn na n3 n4 sn si sm sp (.slice ta tl tc) s6 s7 cn ci cs ct ce c6 c7 true wt) 47) (.cells z21 47) (.cells (o21 kd ⟨#[]⟩ ⟨#[]⟩ 0 0 ⟨#[]⟩ ⟨#[]⟩ ⟨#[]⟩ 0 (.slice none 0 0) 0 0 ⟨#[]⟩ ⟨#[]⟩ ⟨#[]⟩ 0 ⟨#[]⟩ 0 0 true wt) 47)
 obtain ⟨w3, Hw3⟩ : ∃ w3, Hid (w3 = ((w.alloc (.cells (o21 kd nn na n3 n4 sn si sm sp (.slice ta tl tc) s6 s7 cn ci cs ct ce c6 c7 true wt) 47)).alloc (.cells z21 47)).alloc (.cells (o21 kd ⟨#[]⟩ ⟨#[]⟩ 0 0 ⟨#[]⟩ ⟨#[]⟩ ⟨#[]⟩ 0 (.slice none 0 0) 0 0 ⟨#[]⟩ ⟨#[]⟩ ⟨#[]⟩ 0 ⟨#[]⟩ 0 0 true wt) 47)) := ⟨_, rfl⟩
 have HA3 : Hid (Blk w3 w.heap.size (o21 kd nn na n3 n4 sn si sm sp (.slice ta tl tc) s6 s7 cn ci cs ct ce c6 c7 true wt) 47) := by rw [Hw3.out]; exact b1
 have HR3 : Hid (Blk w3 (w.heap.size + 1) z21 47) := by rw [Hw3.out]; exact b2
 have HF3 : Hid (Blk w3 (w.heap.size + 1 + 1) (o21 kd ⟨#[]⟩ ⟨#[]⟩ 0 0 ⟨#[]⟩ ⟨#[]⟩ ⟨#[]⟩ 0 (.slice none 0 0) 0 0 ⟨#[]⟩ ⟨#[]⟩ ⟨#[]⟩ 0 ⟨#[]⟩ 0 0 true wt) 47) := by rw [Hw3.out]; exact b3
 have HB3 : Hid (Below w.heap.size w w3) := by rw [Hw3.out]; exact b4
 clear b1 b2 b3 b4
 go_enter Tryz.func15, Tryz.ntmps15
 have HZz : Hid (OppA w oppZ 96 (.returned (.tuple #[.agg z21, .int .i64 96])) (w3.setRow (w.heap.size + 1) z21)) := ⟨.slice none 0 0, rfl, World.ownsRow_nil _ _ _ _, below_setRow HB3.out (by omega) _⟩
 have HLd : Hid ((loadVar 47 ⟨(w.heap.size + 1), 0, none⟩).run Tryz.prog (w3.setRow (w.heap.size + 1) z21) = .ok (.agg z21) (w3.setRow (w.heap.size + 1) z21)) := load_op (blk_setRow HR3.out _) rfl
 iterate 36 go_step
 refine wp_store_op rfl ?_ rfl rfl rfl rfl (by simp [Value.oneCell']) ?_
 ·simp only [size_new]
 go_upto_region 20 with fail
 rw [← Hw3.out]
 iterate 8 go_step
 refine wp_put_op rfl HR3.out rfl rfl rfl rfl (by simp [Value.oneCell']) ?_
 go_wp2
 exact ret_box (g := (w.heap.size + 1)) (w := (w3.setRow (w.heap.size + 1) z21)) (e := .int .i64 96) rfl rfl rfl rfl HLd.out HZz.out
end Go.Proofs.YthgcnmilaifkoaaGreatDoor

/- Layer 9 (records): the document's FixOp, whole. -/
namespace Go.Proofs.YthgcnmilaifkoaaGreatDoor
open Go.RowKit

theorem refFixOp_calls (o : Opp) (ta : Option Addr) (tc : Nat) (w : World) (hs : o.small) (hna : o.node.addr.size ≤ 1048576) (hc : CellsAt w ta (o.svc.tags.map Value.string)) :
  Calls Tryz.prog 15 #[.agg (o.v (.slice ta o.svc.tags.length tc))] w fun e w' => OppA w (oppF o) (oppE o) e w' := by
 rcases hb : o.cas
 ·by_cases h1 : o.kind = 1
  ·exact fixOpb1_false o h1 hb ta tc w hs hna hc
  by_cases h2 : o.kind = 2
  ·exact fixOpb2_false o h2 hb ta tc w hs hna hc
  by_cases h3 : o.kind = 3
  ·exact fixOpb3_false o h3 hb ta tc w hs hna hc
  by_cases h4 : o.kind = 4
  ·exact fixOpb4_false o h4 hb ta tc w hs hna hc
  by_cases h5 : o.kind = 5
  ·exact fixOpb5_false o h5 hb ta tc w hs hna hc
  by_cases h6 : o.kind = 6
  ·exact fixOpb6_false o h6 hb ta tc w hs hna hc
  exact fixOpb7_false o ⟨h1, h2, h3, h4, h5, h6⟩ hb ta tc w hs hna hc
 ·by_cases h1 : o.kind = 1
  ·exact fixOpb1_true o h1 hb ta tc w hs hna hc
  by_cases h2 : o.kind = 2
  ·exact fixOpb2_true o h2 hb ta tc w hs hna hc
  by_cases h3 : o.kind = 3
  ·exact fixOpb3_true o h3 hb ta tc w hs hna hc
  by_cases h4 : o.kind = 4
  ·exact fixOpb4_true o h4 hb ta tc w hs hna hc
  by_cases h5 : o.kind = 5
  ·exact fixOpb5_true o h5 hb ta tc w hs hna hc
  by_cases h6 : o.kind = 6
  ·exact fixOpb6_true o h6 hb ta tc w hs hna hc
  exact fixOpb7_true o ⟨h1, h2, h3, h4, h5, h6⟩ hb ta tc w hs hna hc
end Go.Proofs.YthgcnmilaifkoaaGreatDoor

/- Layer 13 (journal): the document's Sound. -/
namespace Go.Proofs.YthgcnmilaifkoaaGreatDoor
open Go.RowKit
set_option linter.unusedVariables false

theorem sameO_comm (a b : Opp) : sameO a b = sameO b a := by
 rw [Bool.eq_iff_iff, sameO_iff, sameO_iff]
 exact eq_comm
set_option maxRecDepth 100000 in
set_option maxHeartbeats 8000000 in
theorem rsound_calls (i : Int) (ao : Option Addr) (c : Nat) (l : List OV) (w : World) (hl : l.length ≤ 140737488355328) (hok : ∀ x ∈ l, x.ok) (hna : ∀ x ∈ l, x.o.node.addr.size ≤ 1048576) (hat : OpsAt w ao l) :
  Calls Tryz.prog 8 #[.agg #[.int .u64 i, .slice ao l.length c]] w fun e w' => e = .returned (.bool (soundB (ops l))) ∧ Below w.heap.size w w' := by
 have HK : Hid (∀ k (h : k < l.length), (l[k]'h).ok ∧ (l[k]'h).o.node.addr.size ≤ 1048576) := fun k h => ⟨hok _ (List.getElem_mem h), hna _ (List.getElem_mem h)⟩
 have HAT : Hid (OpsAt w ao l) := hat
 clear hok hna hat
 obtain ⟨S, HS⟩ : ∃ x, Hid (x = soundB (ops l)) := ⟨_, rfl⟩
 rw [← HS.out]
 have HSE : Hid (S = (decide (1 ≤ l.length ∧ l.length ≤ 64) && (ops l).all sndB)) := by
  show _ = _
  rw [HS.out]
  unfold soundB
  simp [ops]
 clear HS
 obtain ⟨n, Hn⟩ : ∃ x, Hid (x = l.length) := ⟨_, rfl⟩
 rw [← Hn.out] at hl HSE ⊢
 obtain ⟨wx, Hwx⟩ : ∃ x, Hid (x = w.alloc (.cells #[.int .u64 i, .slice ao n c] 31)) := ⟨_, rfl⟩
 have HX : Hid (Blk wx w.heap.size #[.int .u64 i, .slice ao n c] 31) := by rw [Hwx.out]; exact Blk.new _ _ _
 have HB : Hid (Below w.heap.size w wx) := by rw [Hwx.out]; exact below_new w _
 go_enter Tryz.func8, Tryz.ntmps8
 go_upto_region 1 with fail
 rw [← Hwx.out]
 clear Hwx
 have c1 := HX.out.cell 1 rfl
 by_cases h1 : n < 1
 ·have HF : Hid (S = false) := by
   show _ = _
   rw [HSE.out]
   have : ¬ (1 ≤ n ∧ n ≤ 64) := by omega
   simp [this]
  have q1 : decide ((n : Int) < 1) = true := by simp; omega
  go_wp2
  go_ret
  exact ⟨by rw [HF.out]; rfl, HB.out⟩
 have q1 : decide ((n : Int) < 1) = false := by simp; omega
 by_cases h2 : 64 < n
 ·have HF : Hid (S = false) := by
   show _ = _
   rw [HSE.out]
   have : ¬ (1 ≤ n ∧ n ≤ 64) := by omega
   simp [this]
  have q2 : decide ((64 : Int) < (n : Int)) = true := by simp; omega
  go_wp2
  go_ret
  exact ⟨by rw [HF.out]; rfl, HB.out⟩
 have q2 : decide ((64 : Int) < (n : Int)) = false := by simp; omega
 have HSA : Hid (S = (ops l).all sndB) := by
  show _ = _
  rw [HSE.out]
  have : (1 ≤ n ∧ n ≤ 64) := by omega
  simp [this]
 clear HSE
 go_wp2
 clear q1 q2 c1
 go_loopw [20] (fun i' wr => ∃ k : Nat, k ≤ n ∧ i' = .int .i64 k ∧ Hid ((ops (l.take k)).all sndB = true) ∧ Hid (Below w.heap.size w wr)) (fun i' _ => n - (intOf i').toNat)
 case atStart => exact ⟨0, Nat.zero_le _, rfl, by simp [ops, Hid], HB⟩
 case round =>
  obtain ⟨k, hk, rfl, HA, HBr⟩ := hrel
  by_cases hlt : k < n
  ·have hkl : k < l.length := by rw [← Hn.out]; exact hlt
   obtain ⟨b, off, rfl, hrange⟩ := (HAT.out.below HBr.out).at k hkl
   obtain ⟨y, Hy⟩ : ∃ y, Hid (y = l[k]'hkl) := ⟨_, rfl⟩
   have HTG : Hid (CellsAt wr y.ta (y.o.svc.tags.map Value.string)) := by rw [Hy.out]; exact (HAT.out.below HBr.out).tags _ (List.getElem_mem hkl)
   have HRG : Hid (wr.rangeAt b (off + k * 21) y.v.toList) := by rw [Hy.out]; exact hrange
   have HYK : Hid (y.ok ∧ y.o.node.addr.size ≤ 1048576) := by rw [Hy.out]; exact HK.out k hkl
   have HA2 : Hid (sndB y.o = true → (ops (l.take (k + 1))).all sndB = true) := fun h => by
    rw [ops_take l k hkl, List.all_append, HA.out, ← Hy.out]
    simp [h]
   have HA3 : Hid (sndB y.o = false → S = false) := fun h => by
    rw [HSA.out, List.all_eq_false]
    exact ⟨y.o, by rw [Hy.out]; exact List.mem_map.2 ⟨_, List.getElem_mem hkl, rfl⟩, by rw [h]; simp⟩
   clear Hy hkl hrange HA
   have hBr := HBr.out.size
   obtain ⟨o, ta, tc⟩ := y
   obtain ⟨ne, Hne⟩ : ∃ x, Hid (x = oppE o) := ⟨_, rfl⟩
   obtain ⟨r, Hr⟩ : ∃ x, Hid (x = oppF o) := ⟨_, rfl⟩
   obtain ⟨D, HD⟩ : ∃ x, Hid (x = sameO r o) := ⟨_, rfl⟩
   have C3 : Hid (∀ w, CellsAt w ta (o.svc.tags.map Value.string) → Calls Tryz.prog 15 #[.agg (o.v (.slice ta o.svc.tags.length tc))] w fun e w' => OppA w r ne e w') := fun w h => by rw [Hr.out, Hne.out]; exact refFixOp_calls o ta tc w HYK.out.1.small HYK.out.2 h
   have C4 : Hid (∀ a b ac bc w, CellsAt w a (r.svc.tags.map Value.string) → CellsAt w b (o.svc.tags.map Value.string) → Calls Tryz.prog 16 #[.agg (r.v (.slice a r.svc.tags.length ac)), .agg (o.v (.slice b o.svc.tags.length bc))] w fun e w' => e = .returned (.bool D) ∧ Below w.heap.size w w') := fun a b ac bc w h1 h2 => by rw [HD.out]; exact rsameOp_calls r o a b ac bc w (by rw [Hr.out]; have := oppF_lenN o; have := HYK.out.1.len; dsimp only at this; omega) HYK.out.1.len h1 h2
   have HRE : Hid (sndB o = if ne = 0 then D else false) := by
    show _ = _
    rw [HD.out, Hne.out, Hr.out, sameO_comm]
    unfold sndB
    by_cases h : oppE o = 0 <;> simp [h]
   have HT : Hid (CellsAt wr ta (o.svc.tags.map Value.string)) := HTG
   have HRG2 : Hid (wr.rangeAt b (off + k * 21) (OV.v ⟨o, ta, tc⟩).toList) := HRG
   clear Hne Hr HD HTG HRG HYK
   go_upto_region 5 with fail
   iterate 5 go_step
   refine wp_load_ov rfl rfl HRG2.out ?_
   simp only [OV.v]
   obtain ⟨tl, Htl⟩ : ∃ x, Hid (x = o.svc.tags.length) := ⟨_, rfl⟩
   obtain ⟨fl, Hfl⟩ : ∃ x, Hid (x = r.svc.tags.length) := ⟨_, rfl⟩
   obtain ⟨TL, HTL⟩ : ∃ x, Hid (x = o.svc.tags.map Value.string) := ⟨_, rfl⟩
   obtain ⟨FL, HFL⟩ : ∃ x, Hid (x = r.svc.tags.map Value.string) := ⟨_, rfl⟩
   simp only [OppA] at C3
   rw [← Htl.out] at C3 C4 ⊢
   rw [← Hfl.out] at C3 C4
   rw [← HTL.out] at C3 C4 HT
   rw [← HFL.out] at C3 C4
   clear Htl Hfl HTL HFL HRG2
   iterate 5 go_step
   refine wp_store_op rfl rfl rfl rfl rfl rfl (v_oneN _ _ _ _) ?_
   obtain ⟨w3, Hw3⟩ : ∃ x, Hid (x = wr.alloc (.cells (o.v (.slice ta tl tc)) 47)) := ⟨_, rfl⟩
   have KA3 : Hid (Blk w3 wr.heap.size (o.v (.slice ta tl tc)) 47) := by rw [Hw3.out]; exact Blk.new _ _ _
   have HB3 : Hid (Below w.heap.size w w3) := by rw [Hw3.out]; exact HBr.out.alloc hBr _
   have HT3 : Hid (CellsAt w3 ta TL) := by rw [Hw3.out]; exact HT.out.below (below_new _ _)
   rw [← Hw3.out]
   clear Hw3 HBr HT
   go_upto_region 6 with fail
   iterate 2 go_step
   refine wp_get_op rfl KA3.out rfl rfl ?_
   go_wp2_with fail
   refine (C3.out w3 HT3.out).mono ?_
   rintro e w4 ⟨v, rfl, ho, hb⟩
   obtain ⟨ra, rc, rfl, -⟩ := row_forms ho
   dsimp only
   iterate 14 go_step
   refine wp_store_op rfl rfl rfl rfl rfl rfl (v_oneN _ _ _ _) ?_
   obtain ⟨w5, Hw5⟩ : ∃ x, Hid (x = w4.alloc (.cells (r.v (.slice ra fl rc)) 47)) := ⟨_, rfl⟩
   have hb5 : Below w3.heap.size w3 w5 := by rw [Hw5.out]; exact hb.alloc hb.size _
   have KA5 : Hid (Blk w5 wr.heap.size (o.v (.slice ta tl tc)) 47) := KA3.out.below hb5
   have HB5 : Hid (Below w.heap.size w w5) := HB3.out.trans (hb5.mono HB3.out.size)
   have HT5 : Hid (CellsAt w5 ta TL) := HT3.out.below hb5
   obtain ⟨p4, Hp4⟩ : ∃ x, Hid (x = w4.heap.size) := ⟨_, rfl⟩
   have KR5 : Hid (Blk w5 p4 (r.v (.slice ra fl rc)) 47) := by rw [Hw5.out, Hp4.out]; exact Blk.new _ _ _
   have RR5 : Hid (CellsAt w5 ra FL) := by rw [Hw5.out]; exact CellsAt.below (row_cells ho) (below_new w4 _)
   rw [← Hw5.out, ← Hp4.out]
   clear Hw5 Hp4 hb5 hb ho KA3 HB3 HT3
   by_cases h0 : ne = 0
   ·have HF : Hid (sndB o = D) := by show _ = _; rw [HRE.out, if_pos h0]
    clear HRE
    subst h0
    go_upto_region 7 with fail
    iterate 10 go_step
    refine wpList_get_opN (by rfl) rfl KR5.out rfl rfl ?_
    refine wpList_get_opN (by rfl) rfl KA5.out rfl rfl ?_
    go_wp2_with fail
    refine (C4.out ra ta rc tc w5 RR5.out HT5.out).mono ?_
    rintro e w6 ⟨rfl, hb6⟩
    have HB6 : Hid (Below w.heap.size w w6) := HB5.out.trans (hb6.mono HB5.out.size)
    clear hb6 HB5 KA5 KR5 RR5 HT5 C3 C4
    cases D with
    | true =>
     have HA4 : Hid ((ops (l.take (k + 1))).all sndB = true) := HA2.out HF.out
     go_wp2
     go_roundw
     case rel => exact ⟨k + 1, by omega, by go_num, HA4, HB6⟩
     case measure => simp [intOf]; omega
    | false =>
     have HA4 : Hid (S = false) := HA3.out HF.out
     go_wp2
     go_ret
     exact ⟨by rw [HA4.out]; rfl, HB6.out⟩
   ·have HA4 : Hid (S = false) := HA3.out (by show sndB o = false; rw [HRE.out, if_neg h0])
    have q : (ne != 0) = true := by simpa using h0
    clear HRE h0
    go_wp2
    go_ret
    exact ⟨by rw [HA4.out]; rfl, HB5.out⟩
  ·obtain rfl : k = n := by omega
   have HF : Hid (S = true) := by
    show _ = _
    rw [HSA.out]
    have := HA.out
    rw [List.take_of_length_le (by rw [← Hn.out]; omega)] at this
    exact this
   go_wp2
   go_ret
   exact ⟨by rw [HF.out]; rfl, HBr.out⟩
end Go.Proofs.YthgcnmilaifkoaaGreatDoor

/- Layer 13 (journal): the document's Framed. -/
namespace Go.Proofs.YthgcnmilaifkoaaGreatDoor
open Go.RowKit
set_option linter.unusedVariables false

set_option maxRecDepth 100000 in
set_option maxHeartbeats 1000000 in
theorem framed_calls (ao : Option Addr) (cap : Nat) (p : List UInt8) (w : World) (hl : p.length ≤ 131072) (h : BAt w ao p) :
  Calls Tryz.prog 35 #[.slice ao p.length cap] w fun e w' => ∃ v', e = .returned v' ∧ Own w' w.heap.size v' (frameB p) ∧ Below w.heap.size w w' := by
 have HBA : Hid (BAt w ao p) := h
 have HSM : Hid (∀ W, BAt W ao p → Calls Tryz.prog 49 #[.slice ao p.length cap] W fun e w' => e = .returned (.int .u32 (sumB p)) ∧ w' = W) := fun W hW => refSum_calls ao cap p W (by omega) hW
 clear h
 obtain ⟨n, Hn⟩ : ∃ x, Hid (x = p.length) := ⟨_, rfl⟩
 rw [← Hn.out] at hl HSM ⊢
 obtain ⟨w1, Hw1⟩ : ∃ x, Hid (x = w.alloc (.cells #[.int .u8 77] 5)) := ⟨_, rfl⟩
 have HO1 : Hid (Own w1 w.heap.size (.slice (some ⟨w.heap.size, 0, none⟩) 1 1) [77]) := by
  rw [Hw1.out]
  exact World.ownsRow_lit (size := 1) w #[.int .u8 77] 1 (Nat.le_refl _) (by unfold maxLen; omega) rfl
 have HB1 : Hid (Below w.heap.size w w1) := by rw [Hw1.out]; exact below_new w _
 have HW1 : Hid (w1.heap.size = w.heap.size + 1) := by show _ = _; rw [Hw1.out, size_new]
 go_enter Tryz.func35, Tryz.ntmps35
 go_wp2_with fail
 rw [← Hw1.out]
 clear Hw1
 have hwr : IntKind.u64.wrap (n : Int) = (n : Int) := by
  show (n : Int) % 18446744073709551616 = _
  omega
 refine (rbig_calls (n : Int) 4 w1 (by omega) (by omega) (by omega)).mono ?_
 rintro e w2 ⟨c2, rfl, ho2, hb2⟩
 have HO2 : Hid (Own w2 w.heap.size (.slice (some ⟨w.heap.size, 0, none⟩) 1 1) [77]) := HO1.out.below hb2
 have HB2 : Hid (Below w.heap.size w w2) := HB1.out.trans (hb2.mono HB1.out.size)
 have HA2 : Hid (CellsAt w2 (some ⟨w1.heap.size, 0, none⟩) (bs (big 4 (n : Int)))) := ho2.bytes
 clear hb2 ho2 HO1 HB1
 have HL4 : Hid ((bs (big 4 (n : Int))).length = 4 * 1) := by show _ = _; rw [bs_length, big_length]
 go_wp2_with (at_builtin; refine append_src _ rfl (.tmp 4) (.tmp 8) 50 5 (.int .u8 0) 1 1 Tryz.underlying50 info_u8 rfl (by decide) rfl w.heap.size _ 1 (bs [77]) rfl HO2.out (some ⟨w1.heap.size, 0, none⟩) 4 c2 (bs (big 4 (n : Int))) rfl HL4.out HA2.out (bs_one _) (by unfold maxLen; omega) (by omega) HB2.out.size ?_)
 intro v3 w3 ho3 hg3
 have HB3 : Hid (Below w.heap.size w w3) := HB2.out.trans (hg3.toBelow HB2.out.size fun q hq => (HO2.out.lt q hq).1)
 have HO3 : Hid (w3.ownsRow w.heap.size 5 1 v3 5 (bs [77] ++ bs (big 4 (n : Int)))) := ho3
 clear ho3 hg3 HO2 HB2 HA2 HL4
 have HA3 : Hid (CellsAt w3 ao (bs p)) := (show CellsAt w ao (bs p) from HBA.out).below HB3.out
 have HLP : Hid ((bs p).length = n * 1) := by show _ = _; rw [bs_length, Hn.out, Nat.mul_one]
 go_wp2_with (at_builtin; refine append_src _ rfl (.tmp 10) (.tmp 11) 50 5 (.int .u8 0) 1 1 Tryz.underlying50 info_u8 rfl (by decide) rfl w.heap.size _ 5 (bs [77] ++ bs (big 4 (n : Int))) rfl HO3.out ao n cap (bs p) rfl HLP.out HA3.out (bs_one _) (by unfold maxLen; omega) (by omega) HB3.out.size ?_)
 intro v4 w4 ho4 hg4
 have HB4 : Hid (Below w.heap.size w w4) := HB3.out.trans (hg4.toBelow HB3.out.size fun q hq => (World.ownsRow.lt HO3.out q hq).1)
 have HO4 : Hid (w4.ownsRow w.heap.size 5 1 v4 (5 + n) (bs [77] ++ bs (big 4 (n : Int)) ++ bs p)) := ho4
 clear ho4 hg4 HO3 HB3 HA3 HLP
 have HA4 : Hid (BAt w4 ao p) := (show CellsAt w ao (bs p) from HBA.out).below HB4.out
 go_wp2_with fail
 refine (HSM.out w4 HA4.out).mono ?_
 rintro e w5 ⟨rfl, rfl⟩
 obtain ⟨S, HS⟩ : ∃ x, Hid (x = sumB p) := ⟨_, rfl⟩
 rw [← HS.out]
 have hS : S < 4294967296 := by rw [HS.out]; exact sumB_lt p
 have hwS : IntKind.u64.wrap (S : Int) = (S : Int) := by
  show (S : Int) % 18446744073709551616 = _
  omega
 clear HSM HA4
 go_wp2_with fail
 refine (rbig_calls (S : Int) 4 w5 (by omega) (by omega) (by omega)).mono ?_
 rintro e w6 ⟨c6, rfl, ho6, hb6⟩
 have HO6 : Hid (w6.ownsRow w.heap.size 5 1 v4 (5 + n) (bs [77] ++ bs (big 4 (n : Int)) ++ bs p)) := row_below HO4.out hb6
 have HB6 : Hid (Below w.heap.size w w6) := HB4.out.trans (hb6.mono HB4.out.size)
 have HA6 : Hid (CellsAt w6 (some ⟨w5.heap.size, 0, none⟩) (bs (big 4 (S : Int)))) := ho6.bytes
 clear hb6 ho6 HO4 HB4
 have HL6 : Hid ((bs (big 4 (S : Int))).length = 4 * 1) := by show _ = _; rw [bs_length, big_length]
 go_wp2_with (at_builtin; refine append_src _ rfl (.tmp 13) (.tmp 17) 50 5 (.int .u8 0) 1 1 Tryz.underlying50 info_u8 rfl (by decide) rfl w.heap.size _ (5 + n) (bs [77] ++ bs (big 4 (n : Int)) ++ bs p) rfl HO6.out (some ⟨w5.heap.size, 0, none⟩) 4 c6 (bs (big 4 (S : Int))) rfl HL6.out HA6.out (bs_one _) (by unfold maxLen; omega) (by omega) HB6.out.size ?_)
 intro v7 w7 ho7 hg7
 have HB7 : Hid (Below w.heap.size w w7) := HB6.out.trans (hg7.toBelow HB6.out.size fun q hq => (World.ownsRow.lt HO6.out q hq).1)
 have HF : Hid (Own w7 w.heap.size v7 (frameB p)) := by
  have e1 : frameB p = [77] ++ big 4 (n : Int) ++ p ++ big 4 (S : Int) := by rw [Hn.out, HS.out]; rfl
  unfold Own
  rw [e1, bs_append, bs_append, bs_append]
  have e2 : ([77] ++ big 4 (n : Int) ++ p ++ big 4 (S : Int) : List UInt8).length = 5 + n + 4 := by simp [big_length, ← Hn.out]; omega
  rw [e2]
  exact ho7
 clear ho7 hg7
 go_wp2
 go_ret
 exact ⟨_, rfl, HF.out, HB7.out⟩
end Go.Proofs.YthgcnmilaifkoaaGreatDoor

/- Layer 13 (journal): the document's Encode. -/
namespace Go.Proofs.YthgcnmilaifkoaaGreatDoor
open Go.RowKit
set_option linter.unusedVariables false

set_option maxRecDepth 100000 in
set_option maxHeartbeats 1000000 in
theorem rencode_calls (i : Int) (ao : Option Addr) (c : Nat) (l : List OV) (w : World) (h0 : 0 ≤ i) (h1 : i ≤ 18446744073709551615) (hl : l.length ≤ 140737488355328) (hok : ∀ x ∈ l, x.ok) (hna : ∀ x ∈ l, x.o.node.addr.size ≤ 1048576) (hr : ∀ x ∈ l, x.o.rng) (hat : OpsAt w ao l) :
  Calls Tryz.prog 20 #[.agg #[.int .u64 i, .slice ao l.length c]] w fun e w' => ∃ v', e = .returned (.tuple #[v', .int .i64 (encE (ops l))]) ∧ Own w' w.heap.size v' (encB i (ops l)) ∧ Below w.heap.size w w' := by
 have HS : Hid (∀ W, Below w.heap.size w W → Calls Tryz.prog 8 #[.agg #[.int .u64 i, .slice ao l.length c]] W fun e w' => e = .returned (.bool (soundB (ops l))) ∧ Below W.heap.size W w') := fun W hW => rsound_calls i ao c l W hl hok hna (hat.below hW)
 have HP : Hid (soundB (ops l) = true → ∀ W, Below w.heap.size w W → Calls Tryz.prog 36 #[.agg #[.int .u64 i, .slice ao l.length c]] W fun e w' => ∃ v', e = .returned v' ∧ Own w' W.heap.size v' (payB i (ops l)) ∧ Below W.heap.size W w') := fun hs W hW => rpayload_calls i ao c l W h0 h1 hs hr (hat.below hW)
 have HL : Hid (soundB (ops l) = true → (payB i (ops l)).length ≤ 78793) := fun hs => payB_le hs
 clear hok hna hr hat
 obtain ⟨E, HEE⟩ : ∃ x, Hid (x = encE (ops l)) := ⟨_, rfl⟩
 obtain ⟨Z, HZZ⟩ : ∃ x, Hid (x = encB i (ops l)) := ⟨_, rfl⟩
 rw [← HEE.out, ← HZZ.out]
 obtain ⟨n, Hn⟩ : ∃ x, Hid (x = l.length) := ⟨_, rfl⟩
 rw [← Hn.out] at hl HS HP ⊢
 obtain ⟨wx, Hwx⟩ : ∃ x, Hid (x = w.alloc (.cells #[.int .u64 i, .slice ao n c] 31)) := ⟨_, rfl⟩
 have HX : Hid (Blk wx w.heap.size #[.int .u64 i, .slice ao n c] 31) := by rw [Hwx.out]; exact Blk.new _ _ _
 have HB : Hid (Below w.heap.size w wx) := by rw [Hwx.out]; exact below_new w _
 go_enter Tryz.func20, Tryz.ntmps20
 go_upto_region 1 with fail
 rw [← Hwx.out]
 clear Hwx
 have c0 := HX.out.cell 0 rfl
 have c1 := HX.out.cell 1 rfl
 go_wp2_with fail
 refine (HS.out wx HB.out).mono ?_
 rintro e w1 ⟨rfl, hb1⟩
 have HB1 : Hid (Below w.heap.size w w1) := HB.out.trans (hb1.mono HB.out.size)
 have HX1 : Hid (Blk w1 w.heap.size #[.int .u64 i, .slice ao n c] 31) := HX.out.below hb1
 clear hb1 HS HX HB c0 c1
 cases hs : soundB (ops l) with
 | false =>
  have HE : Hid (E = 130 ∧ Z = []) := by rw [HEE.out, HZZ.out]; unfold encE encB; rw [hs]; exact ⟨rfl, rfl⟩
  clear hs HP HL
  go_wp2
  go_ret2
  exact ⟨.slice none 0 0, by rw [HE.out.1]; rfl, by rw [HE.out.2]; exact Own.nil _ _, HB1.out⟩
 | true =>
  have HE : Hid (E = 0 ∧ Z = frameB (payB i (ops l))) := by rw [HEE.out, HZZ.out]; unfold encE encB; rw [hs]; exact ⟨rfl, rfl⟩
  have HP2 := HP.out hs w1 HB1.out
  have HL2 := HL.out hs
  have HPC : Hid (Calls Tryz.prog 36 #[.agg #[.int .u64 i, .slice ao n c]] w1 fun e w' => ∃ v', e = .returned v' ∧ Own w' w1.heap.size v' (payB i (ops l)) ∧ Below w1.heap.size w1 w') := HP2
  clear hs HP HL HP2
  obtain ⟨p, Hp⟩ : ∃ x, Hid (x = payB i (ops l)) := ⟨_, rfl⟩
  rw [← Hp.out] at HPC HL2 HE
  clear Hp
  have c0 := HX1.out.cell 0 rfl
  have c1 := HX1.out.cell 1 rfl
  go_wp2_with fail
  refine HPC.out.mono ?_
  rintro e w2 ⟨v2, rfl, ho2, hb2⟩
  have HB2 : Hid (Below w.heap.size w w2) := HB1.out.trans (hb2.mono HB1.out.size)
  obtain ⟨a2, k2, rfl⟩ := ho2.shape
  have HFC : Hid (Calls Tryz.prog 35 #[.slice a2 p.length k2] w2 fun e w' => ∃ v', e = .returned v' ∧ Own w' w2.heap.size v' (frameB p) ∧ Below w2.heap.size w2 w') := framed_calls a2 k2 p w2 (by omega) ho2.bytes
  clear hb2 HPC HX1 c0 c1 ho2
  obtain ⟨pl, Hpl⟩ : ∃ x, Hid (x = p.length) := ⟨_, rfl⟩
  rw [← Hpl.out] at HFC ⊢
  clear Hpl
  go_wp2_with fail
  refine HFC.out.mono ?_
  rintro e w3 ⟨v3, rfl, ho3, hb3⟩
  have HB3 : Hid (Below w.heap.size w w3) := HB2.out.trans (hb3.mono HB2.out.size)
  have HO3 : Hid (Own w3 w.heap.size v3 (frameB p)) := row_weak HB2.out.size ho3
  clear hb3 ho3 HFC
  go_wp2
  go_ret2
  exact ⟨v3, by rw [HE.out.1]; rfl, by rw [HE.out.2]; exact HO3.out, HB3.out⟩
end Go.Proofs.YthgcnmilaifkoaaGreatDoor
