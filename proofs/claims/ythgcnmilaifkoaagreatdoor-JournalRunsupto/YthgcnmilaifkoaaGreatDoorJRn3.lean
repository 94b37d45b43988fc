import Derived.Test.YthgcnmilaifkoaaGreatDoorJReadP
import Derived.Test.YthgcnmilaifkoaaGreatDoorJPayOf
/- Layer 13 (journal): readPayload, the walk. -/
namespace Go.Proofs.YthgcnmilaifkoaaGreatDoor
open Go.RowKit
set_option linter.unusedVariables false

/-- What readPayload answers. -/
def ReadA (w : World) (p : List UInt8) (e : Ending) (w' : World) : Prop :=
 (readOk p = false → e = .returned (.tuple #[.agg #[.int .u64 0, .slice none 0 0], .bool false])) ∧
 (readOk p = true → ∃ ao c l', e = .returned (.tuple #[.agg #[.int .u64 (readI p : Nat), .slice ao l'.length c], .bool true]) ∧ ops l' = (readO p).1 ∧ OwnO w' w.heap.size (.slice ao l'.length c) l') ∧ Below w.heap.size w w'

set_option maxRecDepth 100000 in
set_option maxHeartbeats 4000000 in
theorem readPayload_calls (b off cap : Nat) (p : List UInt8) (w : World) (hv : Vs w) (hl : p.length ≤ 131072) (hcap : p.length ≤ cap) (hbt : BAt w (some ⟨b, off, none⟩) p) (hb : b < w.heap.size) :
    Calls Tryz.prog 46 #[.slice (some ⟨b, off, none⟩) p.length cap] w fun e w' => ReadA w p e w' := by
  have HV : Hid (Vs w) := hv
  obtain ⟨n0, Hn0⟩ : ∃ x, Hid (x = p.length) := ⟨_, rfl⟩
  obtain ⟨W0, HW0⟩ : ∃ x, Hid (x = (w.alloc (.cells #[.int .u64 0, .slice none 0 0] 31)).alloc (.cells #[.slice (some ⟨b, off, none⟩) n0 cap, .bool false] 117)) := ⟨_, rfl⟩
  have hz : (w.alloc (.cells #[.int .u64 0, .slice none 0 0] 31)).heap.size = w.heap.size + 1 := size_new _ _
  have hs0 : W0.heap.size = w.heap.size + 2 := by rw [HW0.out, size_new, hz]
  have HX : Hid (Blk W0 w.heap.size #[.int .u64 0, .slice none 0 0] 31) := by rw [HW0.out]; exact (Blk.new _ _ _).alloc _
  have HB0 : Hid (Below w.heap.size w W0) := by rw [HW0.out]; exact (below_new w _).alloc (by rw [hz]; omega) _
  have HR0 : Hid (RdAt W0 (w.heap.size + 1) (p, false)) := by
    refine ⟨b, off, cap, ?_, hcap, hbt.below HB0.out, by omega⟩
    rw [HW0.out, ← Hn0.out, ← hz]
    exact Blk.new _ _ _
  clear hz hbt hv
  rw [← Hn0.out]
  have HC : Hid (Calls Tryz.prog 62 #[.pointer (some ⟨w.heap.size + 1, 0, none⟩), .int .i64 8] W0 fun e w' => NumA W0 (w.heap.size + 1) 8 (p, false) e w') := number_calls (w.heap.size + 1) (p, false) 8 W0 (by show p.length ≤ _; omega) (by omega) HR0.out
  go_enter Tryz.func46, Tryz.ntmps46
  go_upto_region 2 with fail
  rw [← HW0.out]
  clear HW0
  go_wp2_with fail
  refine HC.out.mono ?_
  rintro e w1 ⟨rfl, hr1⟩
  obtain ⟨rb, Hrb⟩ : ∃ x, Hid (x = w.heap.size + 1) := ⟨_, rfl⟩
  rw [← Hrb.out] at hr1 ⊢
  obtain ⟨i, Hi⟩ : ∃ x, Hid (x = readI p) := ⟨_, rfl⟩
  have hir : i ≤ 18446744073709551615 := by
    have := unbigK_le 8 (p, false)
    rw [Hi.out]
    unfold readI
    omega
  rw [show unbig (tkB 8 (p, false)) = i from Hi.out.symm]
  obtain ⟨s1, Hs1⟩ : ∃ x, Hid (x = tkS 8 (p, false)) := ⟨_, rfl⟩
  have hl1 : s1.1.length ≤ 131072 := by rw [Hs1.out]; exact Nat.le_trans (tkS_len 8 _) hl
  rw [← Hs1.out] at hr1
  have HX1 : Hid (Blk w1 w.heap.size #[.int .u64 0, .slice none 0 0] 31) := HX.out.grown hr1.grown (by rw [Hrb.out]; omega)
  have HB1 : Hid (Below w.heap.size w w1) := below_grown1 HB0.out (Nat.le_refl _) (by rw [Hrb.out]; omega) hr1.grown
  have hsz1 : W0.heap.size ≤ w1.heap.size := hr1.grown.size
  obtain ⟨w2, Hw2⟩ : ∃ x, Hid (x = w1.alloc (.cells #[.int .u64 (i : Nat), .slice none 0 0] 31)) := ⟨_, rfl⟩
  obtain ⟨ge, Hge⟩ : ∃ x, Hid (x = w1.heap.size) := ⟨_, rfl⟩
  have HG : Hid (RpG w W0 rb w.heap.size ge) := ⟨by rw [Hrb.out]; omega, by rw [Hrb.out]; omega, Nat.le_refl _, by omega, by rw [Hrb.out]; omega, by rw [Hge.out]; exact hsz1, by omega⟩
  have HI2 : Hid (RpI w W0 rb w.heap.size ge (i : Nat) (.slice none 0 0) [] s1 w2) := by
    rw [Hw2.out, Hge.out]
    exact ⟨hr1.below (below_new _ _), Blk.new _ _ _, HX1.out.alloc _, ⟨World.ownsRow_nil _ _ _ _, fun x hx => by cases hx⟩, HB1.out.trans ((below_new _ _).mono HB1.out.size), by omega⟩
  have HC3 : Hid (Calls Tryz.prog 63 #[.pointer (some ⟨rb, 0, none⟩)] w2 fun e w' => SmlA w2 rb s1 e w') := small_calls rb s1 w2 HI2.out.len HI2.out.rd.at'
  clear hr1 HC HX HB0 HR0 HX1 HB1
  dsimp only
  go_upto_region 3 with fail
  rw [← Hw2.out, ← Hge.out]
  clear Hw2 Hge
  go_wp2_with fail
  refine HC3.out.mono ?_
  rintro e w3 ⟨rfl, hr3⟩
  obtain ⟨g2, Hg2⟩ : ∃ x, Hid (x = w.heap.size) := ⟨_, rfl⟩
  obtain ⟨N, HN⟩ : ∃ x, Hid (x = smlB s1) := ⟨_, rfl⟩
  have hN : N < 256 := by rw [HN.out]; exact smlB_lt _
  rw [← HN.out]
  obtain ⟨s2, Hs2⟩ : ∃ x, Hid (x = tkS 1 s1) := ⟨_, rfl⟩
  have HI3 : Hid (RpI w W0 rb w.heap.size ge (i : Nat) (.slice none 0 0) [] s2 w3) := by rw [Hs2.out]; exact HI2.out.read HG.out (tkS_len 1 s1) hr3
  have HRO : Hid (readO p = opsP N s2) := by
    show _ = _
    unfold readO readN
    rw [← Hs1.out, ← HN.out, ← Hs2.out]
  have HOK : Hid (∀ k, (∀ o ∈ (opsP k s2).1, o.small ∧ o.svc.tags.length ≤ 255 ∧ o.rng) ∧ (opsP k s2).1.length = k ∧ (opsP k s2).2.1.length ≤ s2.1.length) := fun k => opsP_ok k s2
  rw [← Hg2.out] at HI3 HG ⊢
  clear hr3 HC3 HI2 Hs2 HN Hs1 hl1 hsz1 hs0
  go_wp2_with fail
  go_loopw [14] (fun j wr => ∃ (k : Nat) (v : Value) (m : List OV), k ≤ N ∧ j = .int .i64 k ∧ m.length = k ∧ Hid (ops m = (opsP k s2).1) ∧ Hid (RpI w W0 rb g2 ge (i : Nat) v m (opsP k s2).2 wr)) (fun j _ => N - (intOf j).toNat)
  case atStart => exact ⟨0, .slice none 0 0, [], Nat.zero_le _, rfl, rfl, rfl, HI3⟩
  case round =>
    obtain ⟨k, v, m, hk, rfl, hml, HM, HI⟩ := hrel
    clear HI3
    obtain ⟨va, vc, hvf⟩ := HI.out.own.shape
    rw [hml] at hvf
    subst hvf
    by_cases hlt : k < N
    · obtain ⟨sk, Hsk⟩ : ∃ x, Hid (x = (opsP k s2).2) := ⟨_, rfl⟩
      have HS1 : Hid ((opsP (k + 1) s2).2 = (opP sk).2) := by rw [Hsk.out]; rfl
      have HM1 : Hid (∀ z : OV, z.o = (opP sk).1 → ops (m ++ [z]) = (opsP (k + 1) s2).1) := fun z hz => by
        have : ops (m ++ [z]) = ops m ++ [z.o] := by simp [ops]
        rw [this, HM.out, hz, Hsk.out]
        rfl
      rw [← Hsk.out] at HI
      have HID : Hid (RpI w W0 rb g2 ge (i : Nat) (.slice va k vc) m sk wr.drew) := HI.out.below (drew_below wr)
      have HCALL : Hid (Calls Tryz.prog 64 #[.pointer (some ⟨rb, 0, none⟩)] wr.drew fun e w' => RopA wr.drew rb sk e w') := rop_calls rb sk wr.drew HID.out.len HID.out.rd.at'
      have q0 : wr.cell? ⟨ge, 1, none⟩ = some (.slice va k vc) := HI.out.e.cell 1 rfl
      have qd : wr.drew.cell? ⟨ge, 1, none⟩ = some (.slice va k vc) := HID.out.e.cell 1 rfl
      clear HI Hsk HM
      go_upto_region 5 with fail
      go_region_law
        (first
          | (refine step_append_ov (.tmp 17) (.tmp 20) ⟨⟨kd, ⟨nn, na, n3, n4⟩, ⟨sn, si, sm, sp, tg, s6, s7⟩, ⟨cn, ci, cs, ct, ce, c6, c7⟩, cas, wt⟩, ta, tc⟩ w5 rfl (by rfl) (by rfl) (by rfl) HO5.out (by rfl) (by omega) hB5 ?_
             intro v7 w7 ho7 hg7
             obtain ⟨a7, k7, rfl, -⟩ := row_forms ho7
             have HI8 : Hid (RpI w W0 rb g2 ge (i : Nat) (.slice a7 (k + 1) k7) (m ++ [⟨⟨kd, ⟨nn, na, n3, n4⟩, ⟨sn, si, sm, sp, tg, s6, s7⟩, ⟨cn, ci, cs, ct, ce, c6, c7⟩, cas, wt⟩, ta, tc⟩]) (opP sk).2 (w7.setCell ⟨ge, 1, none⟩ (.slice a7 (k + 1) k7))) := HI5.out.pushK hml HG.out HZT.out ho7 hg7
             have HE7 : Hid (Blk w7 ge #[.int .u64 (i : Nat), .slice va k vc] 31) := row_grewB HI5.out.e HI5.out.own.row hg7 (by decide)
             have q8 : w7.cell? ⟨ge, 1, none⟩ = some (.slice va k vc) := HE7.out.cell 1 rfl
             have f8 := HE7.out.open 1
             clear ho7 hg7)
          | (go_simp
             go_at_call 64
             refine HCALL.out.mono ?_
             rintro e w5 ⟨tv, rfl, hrow, hr⟩
             have HI5 : Hid (RpI w W0 rb g2 ge (i : Nat) (.slice va k vc) m (opP sk).2 w5) := HID.out.read HG.out (opP_len sk) hr
             obtain ⟨o5, Ho5⟩ : ∃ x, Hid (x = (opP sk).1) := ⟨_, rfl⟩
             rw [← Ho5.out] at hrow ⊢
             obtain ⟨kd, ⟨nn, na, n3, n4⟩, ⟨sn, si, sm, sp, tg, s6, s7⟩, ⟨cn, ci, cs, ct, ce, c6, c7⟩, cas, wt⟩ := o5
             obtain ⟨ta, tc, rfl, -⟩ := row_forms hrow
             have HZT : Hid (TagO w5 W0.heap.size ⟨⟨kd, ⟨nn, na, n3, n4⟩, ⟨sn, si, sm, sp, tg, s6, s7⟩, ⟨cn, ci, cs, ct, ce, c6, c7⟩, cas, wt⟩, ta, tc⟩) := row_weak HID.out.rd.grown.size hrow
             simp only [Opp.v]
             have HO5 : Hid (w5.ownsRow W0.heap.size 47 21 (.slice va k vc) k (ocs m)) := own_row hml HI5.out.own
             have hB5 : W0.heap.size ≤ w5.heap.size := HI5.out.rd.grown.size
             have q5 : w5.cell? ⟨ge, 1, none⟩ = some (.slice va k vc) := HI5.out.e.cell 1 rfl
             have q6 : (w5.alloc (.cells (OV.v ⟨⟨kd, ⟨nn, na, n3, n4⟩, ⟨sn, si, sm, sp, tg, s6, s7⟩, ⟨cn, ci, cs, ct, ce, c6, c7⟩, cas, wt⟩, ta, tc⟩) 47)).cell? ⟨ge, 1, none⟩ = some (.slice va k vc) := (HI5.out.e.alloc _).cell 1 rfl
             simp only [OV.v, Opp.v] at q6
             clear hrow hr))
      all_goals
        have HI9 : Hid (RpI w W0 rb g2 ge (i : Nat) (.slice a7 (k + 1) k7) (m ++ [⟨⟨kd, ⟨nn, na, n3, n4⟩, ⟨sn, si, sm, sp, tg, s6, s7⟩, ⟨cn, ci, cs, ct, ce, c6, c7⟩, cas, wt⟩, ta, tc⟩]) (opsP (k + 1) s2).2 (w7.setCell ⟨ge, 1, none⟩ (.slice a7 (k + 1) k7))) := by rw [HS1.out]; exact HI8.out
        have HM9 : Hid (ops (m ++ [⟨⟨kd, ⟨nn, na, n3, n4⟩, ⟨sn, si, sm, sp, tg, s6, s7⟩, ⟨cn, ci, cs, ct, ce, c6, c7⟩, cas, wt⟩, ta, tc⟩]) = (opsP (k + 1) s2).1) := HM1.out _ Ho5.out
        have hml9 : (m ++ [(⟨⟨kd, ⟨nn, na, n3, n4⟩, ⟨sn, si, sm, sp, tg, s6, s7⟩, ⟨cn, ci, cs, ct, ce, c6, c7⟩, cas, wt⟩, ta, tc⟩ : OV)]).length = k + 1 := by simp [hml]
        clear HI8 HE7 HI5 HZT HO5 hB5 HID HCALL HM1 HS1
        go_wp2
        go_roundw
        case rel => exact ⟨k + 1, .slice a7 (k + 1) k7, m ++ [⟨⟨kd, ⟨nn, na, n3, n4⟩, ⟨sn, si, sm, sp, tg, s6, s7⟩, ⟨cn, ci, cs, ct, ce, c6, c7⟩, cas, wt⟩, ta, tc⟩], by omega, by go_num, hml9, HM9, HI9⟩
        case measure => simp [intOf]; omega
    · obtain rfl : k = N := by omega
      obtain ⟨b', off', cap', hblk, hc', hbt', -⟩ := HI.out.rd.at'.mem
      have x1 : wr.cell? ⟨rb, 1, none⟩ = some (.bool (opsP k s2).2.2) := hblk.cell 1 rfl
      have x0 : wr.cell? ⟨rb, 0, none⟩ = some (.slice (some ⟨b', off', none⟩) (opsP k s2).2.1.length cap') := hblk.cell 0 rfl
      have HRK : Hid (readOk p = (!(opsP k s2).2.2 && decide ((opsP k s2).2.1.length = 0) && soundB (ops m))) := by
        show _ = _
        unfold readOk
        rw [HRO.out, ← HM.out]
      have hl2 : (opsP k s2).2.1.length ≤ 140737488355328 := HI.out.len
      obtain ⟨od, Hod⟩ : ∃ x, Hid (x = (opsP k s2).2.2) := ⟨_, rfl⟩
      obtain ⟨rl, Hrl⟩ : ∃ x, Hid (x = (opsP k s2).2.1.length) := ⟨_, rfl⟩
      rw [← Hod.out] at x1 HRK
      rw [← Hrl.out] at x0 HRK hl2
      clear hblk hc' hbt' Hod Hrl
      cases od with
      | true =>
        have HKF : Hid (readOk p = false) := by show _ = _; rw [HRK.out]; rfl
        obtain ⟨we, Hwe⟩ : ∃ x, Hid (x = putC wr g2 0 [.int .u64 0, .slice none 0 0]) := ⟨_, rfl⟩
        have HY5 : Hid (Blk we g2 #[.int .u64 0, .slice none 0 0] 31) := by rw [Hwe.out]; exact putC_all HI.out.z rfl
        have HB5 : Hid (Below w.heap.size w we) := by rw [Hwe.out]; exact putC_below _ _ _ HI.out.bl (by rw [Hg2.out]; exact Nat.le_refl _)
        have HLd : Hid ((loadVar 31 ⟨g2, 0, none⟩).run Tryz.prog we = .ok (.agg #[.int .u64 0, .slice none 0 0]) we) := load_ent HY5.out rfl
        have y0 := HI.out.z.cell 0 rfl
        have y1 := HI.out.z.cell 1 rfl
        have f0 := HI.out.z.open 0
        have f1 := HI.out.z.open 1
        go_wp2
        change bodyPost _ _ _ _ _ (putC wr g2 0 [.int .u64 0, .slice none 0 0])
        rw [← Hwe.out]
        exact ret_box (g := g2) (w := we) rfl rfl rfl rfl HLd.out ⟨fun _ => rfl, fun h => absurd (HKF.out.symm.trans h) (by decide), HB5.out⟩
      | false =>
        by_cases hrl : 0 < rl
        · have q1 : (0 : Int) < (rl : Int) := by omega
          have HKF : Hid (readOk p = false) := by show _ = _; rw [HRK.out]; rw [show decide (rl = 0) = false from by simp; omega]; rfl
          obtain ⟨we, Hwe⟩ : ∃ x, Hid (x = putC wr g2 0 [.int .u64 0, .slice none 0 0]) := ⟨_, rfl⟩
          have HY5 : Hid (Blk we g2 #[.int .u64 0, .slice none 0 0] 31) := by rw [Hwe.out]; exact putC_all HI.out.z rfl
          have HB5 : Hid (Below w.heap.size w we) := by rw [Hwe.out]; exact putC_below _ _ _ HI.out.bl (by rw [Hg2.out]; exact Nat.le_refl _)
          have HLd : Hid ((loadVar 31 ⟨g2, 0, none⟩).run Tryz.prog we = .ok (.agg #[.int .u64 0, .slice none 0 0]) we) := load_ent HY5.out rfl
          have y0 := HI.out.z.cell 0 rfl
          have y1 := HI.out.z.cell 1 rfl
          have f0 := HI.out.z.open 0
          have f1 := HI.out.z.open 1
          go_wp2
          change bodyPost _ _ _ _ _ (putC wr g2 0 [.int .u64 0, .slice none 0 0])
          rw [← Hwe.out]
          exact ret_box (g := g2) (w := we) rfl rfl rfl rfl HLd.out ⟨fun _ => rfl, fun h => absurd (HKF.out.symm.trans h) (by decide), HB5.out⟩
        · obtain rfl : rl = 0 := by omega
          have HSC : Hid (Calls Tryz.prog 22 #[.agg (entV (i : Nat) va k vc)] wr fun e w' => e = .returned (.bool (soundB (ops m))) ∧ Below wr.heap.size wr w') := by
            have hmem : ∀ x ∈ m, x.o.small ∧ x.o.svc.tags.length ≤ 255 ∧ x.o.rng := fun x hx => (HOK.out k).1 x.o (by rw [← HM.out]; exact List.mem_map.2 ⟨x, hx, rfl⟩)
            have hat : OpsAt wr va m := by
              have := HI.out.own
              rw [← hml] at this
              exact this.at
            have := isSound_calls (i : Nat) va vc m wr (HV.out.stay HI.out.bl) (by omega) (fun x hx => ⟨(hmem x hx).1, by have := (hmem x hx).2.1; omega⟩) hat
            rw [hml] at this
            exact this
          have e0 : wr.cell? ⟨ge, 0, none⟩ = some (.int .u64 (i : Nat)) := HI.out.e.cell 0 rfl
          have e1 : wr.cell? ⟨ge, 1, none⟩ = some (.slice va k vc) := HI.out.e.cell 1 rfl
          go_wp2_with fail
          refine HSC.out.mono ?_
          rintro e w9 ⟨rfl, hb9⟩
          have HJ : Hid (RpI w W0 rb g2 ge (i : Nat) (.slice va k vc) m (opsP k s2).2 w9) := HI.out.below hb9
          obtain ⟨sd, Hsd⟩ : ∃ x, Hid (x = soundB (ops m)) := ⟨_, rfl⟩
          rw [← Hsd.out] at HRK ⊢
          clear hb9 HSC HI x0 x1 e0 e1
          cases sd with
          | false =>
            have HKF : Hid (readOk p = false) := by show _ = _; rw [HRK.out]; rfl
            obtain ⟨we, Hwe⟩ : ∃ x, Hid (x = putC w9 g2 0 [.int .u64 0, .slice none 0 0]) := ⟨_, rfl⟩
            have HY5 : Hid (Blk we g2 #[.int .u64 0, .slice none 0 0] 31) := by rw [Hwe.out]; exact putC_all HJ.out.z rfl
            have HB5 : Hid (Below w.heap.size w we) := by rw [Hwe.out]; exact putC_below _ _ _ HJ.out.bl (by rw [Hg2.out]; exact Nat.le_refl _)
            have HLd : Hid ((loadVar 31 ⟨g2, 0, none⟩).run Tryz.prog we = .ok (.agg #[.int .u64 0, .slice none 0 0]) we) := load_ent HY5.out rfl
            have y0 := HJ.out.z.cell 0 rfl
            have y1 := HJ.out.z.cell 1 rfl
            have f0 := HJ.out.z.open 0
            have f1 := HJ.out.z.open 1
            go_wp2
            change bodyPost _ _ _ _ _ (putC w9 g2 0 [.int .u64 0, .slice none 0 0])
            rw [← Hwe.out]
            exact ret_box (g := g2) (w := we) rfl rfl rfl rfl HLd.out ⟨fun _ => rfl, fun h => absurd (HKF.out.symm.trans h) (by decide), HB5.out⟩
          | true =>
            have HKT : Hid (readOk p = true) := by show _ = _; rw [HRK.out]; rfl
            obtain ⟨we, Hwe⟩ : ∃ x, Hid (x = putC w9 g2 0 [.int .u64 (i : Nat), .slice va k vc]) := ⟨_, rfl⟩
            have HY5 : Hid (Blk we g2 #[.int .u64 (i : Nat), .slice va k vc] 31) := by rw [Hwe.out]; exact putC_all HJ.out.z rfl
            have HB5 : Hid (Below w.heap.size w we) := by rw [Hwe.out]; exact putC_below _ _ _ HJ.out.bl (by rw [Hg2.out]; exact Nat.le_refl _)
            have HO5 : Hid (OwnO we w.heap.size (.slice va k vc) m) := by
              rw [Hwe.out]
              exact ⟨row_weak HG.out.w0 (row_putK HJ.out.z (by decide) HJ.out.own.row _ _), fun x hx => row_weak HG.out.w0 (row_putK HJ.out.z (by decide) (HJ.out.own.tags x hx) _ _)⟩
            have HLd : Hid ((loadVar 31 ⟨g2, 0, none⟩).run Tryz.prog we = .ok (.agg #[.int .u64 (i : Nat), .slice va k vc]) we) := load_ent HY5.out rfl
            have HFin : Hid (ReadA w p (.returned (.tuple #[.agg #[.int .u64 (i : Nat), .slice va k vc], .bool true])) we) := by
              refine ⟨fun h => absurd (HKT.out.symm.trans h) (by decide), fun _ => ⟨va, vc, m, by rw [Hi.out, hml], by rw [HM.out, HRO.out], by rw [hml]; exact HO5.out⟩, HB5.out⟩
            have y0 := HJ.out.z.cell 0 rfl
            have y1 := HJ.out.z.cell 1 rfl
            have f0 := HJ.out.z.open 0
            have f1 := HJ.out.z.open 1
            have e0 : w9.cell? ⟨ge, 0, none⟩ = some (.int .u64 (i : Nat)) := HJ.out.e.cell 0 rfl
            have e1 : w9.cell? ⟨ge, 1, none⟩ = some (.slice va k vc) := HJ.out.e.cell 1 rfl
            go_wp2
            change bodyPost _ _ _ _ _ (putC w9 g2 0 [.int .u64 (i : Nat), .slice va k vc])
            rw [← Hwe.out]
            exact ret_box (g := g2) (w := we) rfl rfl rfl rfl HLd.out HFin.out
end Go.Proofs.YthgcnmilaifkoaaGreatDoor

/- Layer 13 (journal): Decode of bytes whose frame is refused. -/
namespace Go.Proofs.YthgcnmilaifkoaaGreatDoor
open Go.RowKit
set_option linter.unusedVariables false

theorem ret_box3 {fn : Func} {R : Ending → World → Prop} {a : Act} {w : World} {g : Nat} {cs : Array Value} {T : TypeId} {e1 e2 : Value} (hres : fn.results = #[.cell 2 T, .tmp 3, .tmp 4]) (ht : a.tmps.getD 2 undef = .pointer (some ⟨g, 0, none⟩)) (h3 : a.tmps.getD 3 undef = e1) (h4 : a.tmps.getD 4 undef = e2) (hd : a.defers = [])
  (hl : (loadVar T ⟨g, 0, none⟩).run Tryz.prog w = .ok (.agg cs) w) (hR : R (.returned (.tuple #[.agg cs, e1, e2])) w) : bodyPost Tryz.prog fn R .ret a w := by
 refine bodyPost_ret ?_ hd hR
 have ht' : a.tmps[2]?.getD undef = .pointer (some ⟨g, 0, none⟩) := by simpa using ht
 have h3' : a.tmps[3]?.getD undef = e1 := by simpa using h3
 have h4' : a.tmps[4]?.getD undef = e2 := by simpa using h4
 simp [results, hres, ht', h3', h4', asAddr, hl]

end Go.Proofs.YthgcnmilaifkoaaGreatDoor

/- Layer 13 (journal): Decode of a frame that is taken. -/
namespace Go.Proofs.YthgcnmilaifkoaaGreatDoor
open Go.RowKit
set_option linter.unusedVariables false

def DecA (w : World) (l : List UInt8) (e : Ending) (w' : World) : Prop := ∃ ao c l', e = .returned (.tuple #[.agg #[.int .u64 (readI (payP l) : Nat), .slice ao l'.length c], .int .i64 (((payP l).length + 9 : Nat) : Int), .int .i64 0]) ∧ ops l' = (readO (payP l)).1 ∧ OwnO w' w.heap.size (.slice ao l'.length c) l' ∧ Below w.heap.size w w'
set_option maxRecDepth 100000 in
set_option maxHeartbeats 2000000 in
theorem decode_ok (ao : Option Addr) (cap : Nat) (l : List UInt8) (w : World) (hv : Vs w) (hl : l.length ≤ 140737488455328) (hcap : l.length ≤ cap) (h : BAt w ao l) (he : payE l = 0) (hp : (payP l).length ≤ 131072) (hk : readOk (payP l) = true) :
  Calls Tryz.prog 33 #[.slice ao l.length cap] w fun e w' => DecA w l e w' := by
 obtain ⟨wx, Hwx⟩ : ∃ x, Hid (x = w.alloc (.cells #[.int .u64 0, .slice none 0 0] 31)) := ⟨_, rfl⟩
 have HB : Hid (Below w.heap.size w wx) := by rw [Hwx.out]; exact below_new w _
 have HX : Hid (Blk wx w.heap.size #[.int .u64 0, .slice none 0 0] 31) := by rw [Hwx.out]; exact Blk.new _ _ _
 have HC : Hid (Calls Tryz.prog 45 #[.slice ao l.length cap] wx fun e w' => PayA wx l e w') := payloadOf_calls ao cap l wx hl hcap (h.below HB.out)
 have HV : Hid (Vs w) := hv
 have HE : Hid (payE l = 0) := he
 have HK : Hid (readOk (payP l) = true) := hk
 clear h hv he hk
 obtain ⟨n, Hn⟩ : ∃ x, Hid (x = l.length) := ⟨_, rfl⟩
 rw [← Hn.out] at HC hl hcap ⊢
 go_enter Tryz.func33, Tryz.ntmps33
 go_upto_region 1 with fail
 rw [← Hwx.out]
 clear Hwx
 go_wp2_with fail
 refine HC.out.mono ?_
 rintro e w2 ⟨a2, n2, c2, rfl, hpay, hd⟩
 obtain ⟨hn2, hc2, hb2, x2, y2, rfl, hx2⟩ := hpay HE.out
 rw [HE.out]
 have hbd : Below wx.heap.size wx w2 := by obtain ⟨m, rfl⟩ := hd; exact below_draws _ _
 have HB2 : Hid (Below w.heap.size w w2) := HB.out.trans (hbd.mono HB.out.size)
 have HX2 : Hid (Blk w2 w.heap.size #[.int .u64 0, .slice none 0 0] 31) := HX.out.below hbd
 obtain ⟨p, Hp⟩ : ∃ x, Hid (x = payP l) := ⟨_, rfl⟩
 rw [← Hp.out] at hn2 hb2 hp HK
 subst hn2
 have HRC : Hid (Calls Tryz.prog 46 #[.slice (some ⟨x2, y2, none⟩) p.length c2] w2 fun e w' => ReadA w2 p e w') := readPayload_calls x2 y2 c2 p w2 (HV.out.stay HB2.out) hp hc2 hb2 (by have := hbd.size; omega)
 clear hd hbd HC HX HB hb2 hpay
 obtain ⟨pl, Hpl⟩ : ∃ x, Hid (x = p.length) := ⟨_, rfl⟩
 rw [← Hpl.out] at HRC hp hc2 ⊢
 go_wp2_with fail
 refine HRC.out.mono ?_
 rintro e w3 ⟨-, hok, hb3⟩
 obtain ⟨a3, k3, l3, rfl, hops, hown⟩ := hok HK.out
 have HB3 : Hid (Below w.heap.size w w3) := HB2.out.trans (hb3.mono HB2.out.size)
 have HX3 : Hid (Blk w3 w.heap.size #[.int .u64 0, .slice none 0 0] 31) := HX2.out.below hb3
 have HO3 : Hid (OwnO w3 w.heap.size (.slice a3 l3.length k3) l3) := ⟨row_weak HB2.out.size hown.row, fun x hx => row_weak HB2.out.size (hown.tags x hx)⟩
 have HOP : Hid (ops l3 = (readO p).1) := hops
 obtain ⟨i, Hi⟩ : ∃ x, Hid (x = readI p) := ⟨_, rfl⟩
 obtain ⟨n3, Hn3⟩ : ∃ x, Hid (x = l3.length) := ⟨_, rfl⟩
 rw [← Hi.out]
 rw [← Hn3.out] at HO3 ⊢
 clear hok hb3 hown hops HRC HX2
 have hsz3 : w.heap.size < w3.heap.size := HX3.out.lt
 obtain ⟨w4, Hw4⟩ : ∃ x, Hid (x = w3.alloc (.cells #[.int .u64 (i : Nat), .slice a3 n3 k3] 31)) := ⟨_, rfl⟩
 obtain ⟨g7, Hg7⟩ : ∃ x, Hid (x = w3.heap.size) := ⟨_, rfl⟩
 have HX4 : Hid (Blk w4 w.heap.size #[.int .u64 0, .slice none 0 0] 31) := by rw [Hw4.out]; exact HX3.out.alloc _
 have HE4 : Hid (Blk w4 g7 #[.int .u64 (i : Nat), .slice a3 n3 k3] 31) := by rw [Hw4.out, Hg7.out]; exact Blk.new _ _ _
 have HB4 : Hid (Below w.heap.size w w4) := by rw [Hw4.out]; exact HB3.out.alloc HB3.out.size _
 have HO4 : Hid (OwnO w4 w.heap.size (.slice a3 n3 k3) l3) := by rw [Hw4.out]; exact HO3.out.below (below_new _ _)
 go_upto_region 5 with fail
 rw [← Hw4.out, ← Hg7.out]
 clear Hw4 Hg7 HX3 HB3 HO3 hsz3
 have y0 := HX4.out.cell 0 rfl
 have y1 := HX4.out.cell 1 rfl
 have f0 := HX4.out.open 0
 have f1 := HX4.out.open 1
 have e0 := HE4.out.cell 0 rfl
 have e1 := HE4.out.cell 1 rfl
 obtain ⟨we, Hwe⟩ : ∃ x, Hid (x = putC w4 w.heap.size 0 [.int .u64 (i : Nat), .slice a3 n3 k3]) := ⟨_, rfl⟩
 have HY5 : Hid (Blk we w.heap.size #[.int .u64 (i : Nat), .slice a3 n3 k3] 31) := by rw [Hwe.out]; exact putC_all HX4.out rfl
 have HB5 : Hid (Below w.heap.size w we) := by rw [Hwe.out]; exact putC_below _ _ _ HB4.out (Nat.le_refl _)
 have HO5 : Hid (OwnO we w.heap.size (.slice a3 n3 k3) l3) := by
  rw [Hwe.out]
  exact ⟨row_putK HX4.out (by decide) HO4.out.row _ _, fun x hx => row_putK HX4.out (by decide) (HO4.out.tags x hx) _ _⟩
 have HLd : Hid ((loadVar 31 ⟨w.heap.size, 0, none⟩).run Tryz.prog we = .ok (.agg #[.int .u64 (i : Nat), .slice a3 n3 k3]) we) := load_ent HY5.out rfl
 have HFin : Hid (DecA w l (.returned (.tuple #[.agg #[.int .u64 (i : Nat), .slice a3 n3 k3], .int .i64 (5 + (pl : Int) + 4), .int .i64 0])) we) := by
  refine ⟨a3, k3, l3, ?_, by rw [← Hp.out]; exact HOP.out, by rw [← Hn3.out]; exact HO5.out, HB5.out⟩
  rw [← Hp.out, ← Hi.out, ← Hn3.out, ← Hpl.out]
  rw [show (5 + (pl : Int) + 4) = ((pl + 9 : Nat) : Int) by omega]
 go_wp2
 change bodyPost _ _ _ _ _ (putC w4 w.heap.size 0 [.int .u64 (i : Nat), .slice a3 n3 k3])
 rw [← Hwe.out]
 exact ret_box3 (g := w.heap.size) (w := we) rfl rfl rfl rfl rfl HLd.out HFin.out
end Go.Proofs.YthgcnmilaifkoaaGreatDoor

/- Layer 13 (journal): entries in memory; Decode of a frame, Since, Bytes. -/
namespace Go.Proofs.YthgcnmilaifkoaaGreatDoor
open Go.RowKit
set_option linter.unusedVariables false

/-- An entry, plain, that a journal may hold. -/
structure PeOk (p : Int × List Opp) : Prop where
 lo : 0 ≤ p.1
 hi : p.1 ≤ 18446744073709551615
 snd : soundB p.2 = true
 want : ∀ o ∈ p.2, 0 ≤ o.want ∧ o.want ≤ 18446744073709551615
def frmP (p : Int × List Opp) : List UInt8 := frameB (payB p.1 p.2)
theorem frmP_le {p : Int × List Opp} (h : PeOk p) : (frmP p).length ≤ 78802 := by
 unfold frmP
 rw [frameB_length]
 have := payB_le (i := p.1) h.snd
 omega
/-- What Decode answers of a frame. -/
def DecP (w : World) (p : Int × List Opp) (e : Ending) (w' : World) : Prop := ∃ ao c l' N, e = .returned (.tuple #[.agg #[.int .u64 p.1, .slice ao l'.length c], .int .i64 N, .int .i64 0]) ∧ ops l' = p.2 ∧ OwnO w' w.heap.size (.slice ao l'.length c) l' ∧ Below w.heap.size w w'
theorem decodeP_calls (x : FV) (p : Int × List Opp) (w : World) (hp : PeOk p) (hx : x.l = frmP p) (hA : x.At w) (hv : Vs w) : Calls Tryz.prog 33 #[x.v] w (DecP w p) := by
 have hpl := payB_le (i := p.1) hp.snd
 have h0 : x.l = frameB (payB p.1 p.2) ++ [] := by rw [hx, List.append_nil]; rfl
 have e1 : payE x.l = 0 := by rw [h0]; exact frame_err (by omega)
 have e2 : payP x.l = payB p.1 p.2 := by rw [h0]; exact frame_pay (by omega)
 obtain ⟨r1, r2, r3⟩ := read_back hp.lo hp.hi hp.snd hp.want
 have := frmP_le hp
 refine (decode_ok x.a x.c x.l w hv (by rw [hx]; omega) hA.room hA.bytes e1 (by rw [e2]; omega) (by rw [e2]; exact r3)).mono ?_
 rintro e w' ⟨ao, c, l', rfl, ho, hown, hb⟩
 rw [e2] at ho ⊢
 exact ⟨ao, c, l', _, by rw [r1], ho.trans r2, hown, hb⟩

/-- An entry in memory. -/
structure EV where
 i : Int
 a : Option Addr
 c : Nat
 l : List OV
def EV.cs (x : EV) : List Value := [.int .u64 x.i, .slice x.a x.l.length x.c]
def EV.p (x : EV) : Int × List Opp := (x.i, ops x.l)
def ecs (es : List EV) : List Value := es.flatMap EV.cs
theorem ecs_snoc (es : List EV) (x : EV) : ecs (es ++ [x]) = ecs es ++ x.cs := by simp [ecs]
theorem ecs_one (x : EV) : ∀ u ∈ x.cs, u.oneCell' = true := by
 intro u hu
 simp [EV.cs] at hu
 rcases hu with rfl | rfl <;> rfl
theorem info_ent : (Tryz.prog.info? 31).map (fun i => (i.zero, i.size, i.bytes)) = some (some (.agg #[.int .u64 0, .slice none 0 0]), 2, 32) := by kernel_rfl
/-- All blocks of a list of operations stand below M. -/
structure LtO (M : Nat) (v : Value) (l : List OV) : Prop where
 row : ∀ k, v.ownBlock = some k → k < M
 tags : ∀ x ∈ l, ∀ k, (Value.slice x.ta x.o.svc.tags.length x.tc).ownBlock = some k → k < M
theorem OwnO.lt {w : World} {B : Nat} {v : Value} {l : List OV} (h : OwnO w B v l) : LtO w.heap.size v l :=
 ⟨fun k hk => (World.ownsRow.lt h.row k hk).2, fun x hx k hk => (World.ownsRow.lt (h.tags x hx) k hk).2⟩
theorem OwnO.weak {w : World} {B B' : Nat} {v : Value} {l : List OV} (h : OwnO w B v l) (hB : B' ≤ B) : OwnO w B' v l := ⟨row_weak hB h.row, fun x hx => row_weak hB (h.tags x hx)⟩
theorem OwnO.tys {S : Nat → Prop} {P : TypeId → Prop} {w w' : World} {B : Nat} {v : Value} {l : List OV} (h : OwnO w B v l) (ht : Tys w S P) (hf : Frm S w w') (h1 : ¬ P 47) (h2 : ¬ P 9) : OwnO w' B v l :=
 ⟨ht.row hf h.row h1, fun x hx => ht.row hf (h.tags x hx) h2⟩
theorem OwnO.frm {S : Nat → Prop} {w w' : World} {B : Nat} {v : Value} {l : List OV} (h : OwnO w B v l) (hf : Frm S w w') (h1 : ∀ k, B ≤ k → k < w.heap.size → ¬ S k) : OwnO w' B v l :=
 ⟨hf.row h.row fun k hk => h1 k (World.ownsRow.lt h.row k hk).1 (World.ownsRow.lt h.row k hk).2, fun x hx => hf.row (h.tags x hx) fun k hk => h1 k (World.ownsRow.lt (h.tags x hx) k hk).1 (World.ownsRow.lt (h.tags x hx) k hk).2⟩
/-- The entries' operations, each entry's in blocks behind the one before. -/
def Up (w : World) : Nat → List EV → Prop
 | _, [] => True
 | B, x :: r => ∃ M, B ≤ M ∧ OwnO w B (.slice x.a x.l.length x.c) x.l ∧ LtO M (.slice x.a x.l.length x.c) x.l ∧ Up w M r
theorem Up.tys {S : Nat → Prop} {P : TypeId → Prop} {w w' : World} (ht : Tys w S P) (hf : Frm S w w') (h1 : ¬ P 47) (h2 : ¬ P 9) : ∀ {es : List EV} {B : Nat}, Up w B es → Up w' B es
 | [], _, _ => trivial
 | _ :: _, _, ⟨M, hM, ho, hl, hu⟩ => ⟨M, hM, ho.tys ht hf h1 h2, hl, Up.tys ht hf h1 h2 hu⟩
theorem Up.below {w w' : World} (hb : Below w.heap.size w w') : ∀ {es : List EV} {B : Nat}, Up w B es → Up w' B es
 | [], _, _ => trivial
 | _ :: _, _, ⟨M, hM, ho, hl, hu⟩ => ⟨M, hM, ho.below hb, hl, Up.below hb hu⟩
theorem Up.frm {S : Nat → Prop} {w w' : World} (hf : Frm S w w') : ∀ {es : List EV} {B : Nat}, (∀ k, B ≤ k → k < w.heap.size → ¬ S k) → Up w B es → Up w' B es
 | [], _, _, _ => trivial
 | _ :: _, _, h1, ⟨M, hM, ho, hl, hu⟩ => ⟨M, hM, ho.frm hf h1, hl, Up.frm hf (fun k hk => h1 k (Nat.le_trans hM hk)) hu⟩
theorem Up.mono {w : World} : ∀ {es : List EV} {M N : Nat}, N ≤ M → Up w M es → Up w N es
 | [], _, _, _, _ => trivial
 | _ :: _, _, _, h, ⟨K, hK, ho, hl, hu⟩ => ⟨K, Nat.le_trans h hK, ho.weak h, hl, hu⟩
/-- Of the entries the last one's blocks are the newest. -/
theorem Up.snoc {w w' : World} {x : EV} (hb : Below w.heap.size w w') (hx : OwnO w' w.heap.size (.slice x.a x.l.length x.c) x.l) : ∀ {es : List EV} {B : Nat}, B ≤ w.heap.size → Up w B es → (∀ y ∈ es, LtO w.heap.size (.slice y.a y.l.length y.c) y.l) → Up w' B (es ++ [x])
 | [], B, hB, _, _ => ⟨w'.heap.size, Nat.le_trans hB hb.size, hx.weak hB, hx.lt, trivial⟩
 | y :: r, B, hB, ⟨M, hM, ho, hl, hu⟩, hal => by
  rcases Nat.le_total M w.heap.size with hm | hm
  ·exact ⟨M, hM, ho.below hb, hl, Up.snoc hb hx hm hu fun z hz => hal z (List.mem_cons_of_mem _ hz)⟩
  ·exact ⟨w.heap.size, hB, ho.below hb, hal y (List.mem_cons_self ..), Up.snoc hb hx (Nat.le_refl _) (Up.mono hm hu) fun z hz => hal z (List.mem_cons_of_mem _ hz)⟩
theorem Up.lt {w : World} : ∀ {es : List EV} {B : Nat}, Up w B es → ∀ y ∈ es, LtO w.heap.size (.slice y.a y.l.length y.c) y.l
 | [], _, _ => fun y hy => by cases hy
 | x :: r, _, ⟨M, hM, ho, hl, hu⟩ => fun y hy => by
  rcases List.mem_cons.1 hy with rfl | hy
  ·exact ho.lt
  ·exact Up.lt hu y hy
end Go.Proofs.YthgcnmilaifkoaaGreatDoor
