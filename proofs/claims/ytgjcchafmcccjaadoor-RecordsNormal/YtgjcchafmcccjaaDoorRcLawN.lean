/- Layer 9 (records): RecordsNormal, the walk. -/
import Derived.Test.YtgjcchafmcccjaaDoorRcBox
import Derived.Test.YtgjcchafmcccjaaDoorRcSameT
import Derived.Test.YtgjcchafmcccjaaDoorRcCopyO
import Derived.Test.YtgjcchafmcccjaaDoorRwPut
import Derived.Test.YtgjcchafmcccjaaDoorRcOpC
import Derived.Test.YtgjcchafmcccjaaDoorRwLowR
import Derived.BigQuiet
namespace Go.Proofs.YtgjcchafmcccjaaDoor
open Go.RowKit
set_option linter.unusedVariables false

set_option maxRecDepth 100000 in
set_option maxHeartbeats 8000000 in
theorem recordsNormal_calls (o : Opp) (ta : Option Addr) (tc : Nat) (w : World) (hv : Vs w) (hs : o.small) (hsl : o.svc.tags.length ≤ 8796093022207) (ht : CellsAt w ta (o.svc.tags.map Value.string)) :
    Calls Tryd.prog 4 #[.agg (o.v (.slice ta o.svc.tags.length tc))] w fun e w' => e = .returned (.bool true) ∧ Below w.heap.size w w' := by
  have HV : Hid (Vs w) := hv
  have HT : Hid (CellsAt w ta (o.svc.tags.map Value.string)) := ht
  obtain ⟨ne, Hne⟩ : ∃ x, Hid (x = oppE o) := ⟨_, rfl⟩
  obtain ⟨r, Hr⟩ : ∃ x, Hid (x = oppF o) := ⟨_, rfl⟩
  have C1 : Hid (∀ ta tc w, CellsAt w ta (o.svc.tags.map Value.string) → Calls Tryd.prog 12 #[.agg (o.v (.slice ta o.svc.tags.length tc))] w fun e w' => CopO w o e w') := fun ta tc w h => copyOp_calls o ta tc w hsl h
  have C2 : Hid (∀ ta tc w, CellsAt w ta (r.svc.tags.map Value.string) → Calls Tryd.prog 12 #[.agg (r.v (.slice ta r.svc.tags.length tc))] w fun e w' => CopO w r e w') := fun ta tc w h => copyOp_calls r ta tc w (by rw [Hr.out]; have := oppF_lenN o; omega) h
  have C3 : Hid (∀ ta tc w, CellsAt w ta (o.svc.tags.map Value.string) → Vs w → Calls Tryd.prog 11 #[.agg (o.v (.slice ta o.svc.tags.length tc))] w fun e w' => OppA w r ne e w') := fun ta tc w h h2 => by rw [Hr.out, Hne.out]; exact fixOp_calls o ta tc w hs h h2
  have C4 : Hid (∀ ta tc w, CellsAt w ta ((oppL o).svc.tags.map Value.string) → Vs w → Calls Tryd.prog 11 #[.agg ((oppL o).v (.slice ta o.svc.tags.length tc))] w fun e w' => OppA w r ne e w') := fun ta tc w h h2 => by
    have h3 := fixOp_calls (oppL o) ta tc w (oppL_small hs) h h2
    rw [oppE_low, oppF_low, ← Hr.out, ← Hne.out] at h3
    have h4 : (oppL o).svc.tags.length = o.svc.tags.length := List.length_map ..
    rw [h4] at h3
    exact h3
  have C5 : Hid (∀ ta tc w, ne = 0 → CellsAt w ta (r.svc.tags.map Value.string) → Vs w → Calls Tryd.prog 11 #[.agg (r.v (.slice ta r.svc.tags.length tc))] w fun e w' => OppA w r 0 e w') := fun ta tc w h0 h h2 => by
    have e0 : oppE o = 0 := Hne.out.symm.trans h0
    obtain ⟨a1, a2⟩ := opp_again e0
    rw [← Hr.out] at a1 a2
    have h3 := fixOp_calls r ta tc w (by rw [Hr.out]; exact oppF_small hs) h h2
    rw [a1, a2] at h3
    exact h3
  have C6 : Hid (∀ a b ac bc w, CellsAt w a (r.svc.tags.map Value.string) → CellsAt w b (r.svc.tags.map Value.string) → Calls Tryd.prog 14 #[.agg (r.v (.slice a r.svc.tags.length ac)), .agg (r.v (.slice b r.svc.tags.length bc))] w fun e w' => e = .returned (.bool true) ∧ Below w.heap.size w w') := fun a b ac bc w h1 h2 => sameOp_calls r a b ac bc w (by rw [Hr.out]; have := oppF_lenN o; omega) h1 h2
  have CL : Hid (∀ (s : ByteArray) (w : World), s.size ≤ 140737488351296 → Calls Tryd.prog 13 #[.string s] w fun e w' => e = .returned (.string (lowS s)) ∧ Below w.heap.size w w') := fun s w h => refLow_calls s w h
  have HrL : Hid (r.svc.tags.length ≤ 1048576) := by rw [Hid, Hr.out]; exact oppF_lenN o
  have HRi : Hid ((r.svc.tags.map fun b => b.data.toList).Pairwise (· < ·)) := by rw [Hid, Hr.out]; exact oppF_rises o
  have HZ := opp_zeros o
  rw [← Hr.out] at HZ
  obtain ⟨z1, z2, z3, z4, z5, z6⟩ := HZ
  have Hz1 : Hid (r.node.made = 0) := z1
  have Hz2 : Hid (r.node.changed = 0) := z2
  have Hz3 : Hid (r.svc.made = 0) := z3
  have Hz4 : Hid (r.svc.changed = 0) := z4
  have Hz5 : Hid (r.chk.made = 0) := z5
  have Hz6 : Hid (r.chk.changed = 0) := z6
  have S1 : Hid (o.node.name.size ≤ 140737488351296) := hs.name
  have S2 : Hid (o.svc.node.size ≤ 140737488351296) := hs.svc.node
  have S3 : Hid (o.svc.id.size ≤ 140737488351296) := hs.svc.id
  have S4 : Hid (o.chk.id.size ≤ 140737488351296) := hs.chk.id
  have S5 : Hid (∀ x ∈ o.svc.tags, x.size ≤ 140737488351296) := hs.svc.tags
  clear Hne Hr hs hv ht z1 z2 z3 z4 z5 z6
  obtain ⟨tg, Htg⟩ : ∃ x, Hid (x = o.svc.tags) := ⟨_, rfl⟩
  obtain ⟨rt, Hrt⟩ : ∃ x, Hid (x = r.svc.tags) := ⟨_, rfl⟩
  have HLT : Hid ((oppL o).svc.tags = tg.map lowS) := by rw [Hid, Htg.out]; rfl
  rw [HLT.out] at C4
  simp only [CopO, OppA] at *
  rw [← Htg.out] at C1 C3 C4 HT hsl S5 ⊢
  rw [← Hrt.out] at C2 C3 C4 C5 C6 HrL
  rw [← Hrt.out] at HRi
  clear Htg Hrt HLT
  obtain ⟨tl, Htl⟩ : ∃ x, Hid (x = tg.length) := ⟨_, rfl⟩
  obtain ⟨fl, Hfl⟩ : ∃ x, Hid (x = rt.length) := ⟨_, rfl⟩
  obtain ⟨TL, HTL⟩ : ∃ x, Hid (x = tg.map Value.string) := ⟨_, rfl⟩
  obtain ⟨FL, HFL⟩ : ∃ x, Hid (x = rt.map Value.string) := ⟨_, rfl⟩
  rw [← Htl.out] at C1 C3 C4 hsl ⊢
  rw [← Hfl.out] at C2 C3 C4 C5 C6 HrL
  rw [← HTL.out] at C1 C3 HT
  rw [← HFL.out] at C2 C3 C4 C5 C6
  have q : (ne == ne) = true := beq_self_eq_true _
  have q' : (ne != ne) = false := by simp
  obtain ⟨wx, Hwx⟩ : ∃ x, Hid (x = w.alloc (.cells (o.v (.slice ta tl tc)) 51)) := ⟨_, rfl⟩
  have KA_wx : Hid (Blk wx w.heap.size (o.v (.slice ta tl tc)) 51) := by rw [Hwx.out]; exact Blk.new _ _ _
  have B_wx : Hid (Below w.heap.size w wx) := by rw [Hwx.out]; exact below_new w _
  go_enter Tryd.func4, Tryd.ntmps4
  go_wp2_with fail
  rw [← Hwx.out]
  clear Hwx
  refine (recordsFixed_calls wx (HV.out.stay B_wx.out)).mono ?_
  rintro e w1 ⟨rfl, hb⟩
  have KA_w1 : Hid (Blk w1 w.heap.size (o.v (.slice ta tl tc)) 51) := KA_wx.out.below hb
  have B_w1 : Hid (Below w.heap.size w w1) := B_wx.out.trans (hb.mono B_wx.out.size)
  clear hb KA_wx B_wx
  go_upto_region 3 with fail
  iterate 2 go_step
  refine wp_get_op rfl KA_w1.out rfl rfl ?_
  go_wp2_with fail
  refine (C1.out ta tc w1 (HT.out.below B_w1.out)).mono ?_
  rintro e w2 ⟨v, rfl, ho, hb⟩
  obtain ⟨ca, cc, rfl, -⟩ := row_forms ho
  have RC_w2 : Hid (CellsAt w2 ca TL) := row_cells ho
  have KA_w2 : Hid (Blk w2 w.heap.size (o.v (.slice ta tl tc)) 51) := KA_w1.out.below hb
  have B_w2 : Hid (Below w.heap.size w w2) := B_w1.out.trans (hb.mono B_w1.out.size)
  clear ho hb KA_w1 B_w1
  dsimp only
  go_wp2_with fail
  refine (C3.out ca cc w2 RC_w2.out (HV.out.stay B_w2.out)).mono ?_
  rintro e w3 ⟨v, rfl, ho, hb⟩
  obtain ⟨ra, rc, rfl, -⟩ := row_forms ho
  dsimp only
  iterate 14 go_step
  refine wp_store_op rfl rfl rfl rfl rfl rfl (v_oneN _ _ _ _) ?_
  obtain ⟨w4, Hw4⟩ : ∃ x, Hid (x = w3.alloc (.cells (r.v (.slice ra fl rc)) 51)) := ⟨_, rfl⟩
  have hb4 : Below w2.heap.size w2 w4 := by rw [Hw4.out]; exact hb.alloc hb.size _
  have KA_w4 : Hid (Blk w4 w.heap.size (o.v (.slice ta tl tc)) 51) := KA_w2.out.below hb4
  have B_w4 : Hid (Below w.heap.size w w4) := B_w2.out.trans (hb4.mono B_w2.out.size)
  obtain ⟨p3, Hp3⟩ : ∃ x, Hid (x = w3.heap.size) := ⟨_, rfl⟩
  have KR_w4 : Hid (Blk w4 p3 (r.v (.slice ra fl rc)) 51) := by rw [Hw4.out, Hp3.out]; exact Blk.new _ _ _
  have RR_w4 : Hid (CellsAt w4 ra FL) := by rw [Hw4.out]; exact CellsAt.below (row_cells ho) (below_new w3 _)
  rw [← Hw4.out, ← Hp3.out]
  clear Hw4 Hp3 hb4 hb ho KA_w2 B_w2 RC_w2
  go_upto_region 4 with fail
  iterate 2 go_step
  refine wp_get_op rfl KA_w4.out rfl rfl ?_
  go_wp2_with fail
  refine (C1.out ta tc w4 (HT.out.below B_w4.out)).mono ?_
  rintro e w5 ⟨v, rfl, ho, hb⟩
  obtain ⟨oa, oc, rfl, -⟩ := row_forms ho
  dsimp only
  iterate 5 go_step
  refine wp_store_op rfl rfl rfl rfl rfl rfl (v_oneN _ _ _ _) ?_
  obtain ⟨w6, Hw6⟩ : ∃ x, Hid (x = w5.alloc (.cells (o.v (.slice oa tl oc)) 51)) := ⟨_, rfl⟩
  obtain ⟨p, Hp⟩ : ∃ x, Hid (x = w5.heap.size) := ⟨_, rfl⟩
  have D_w6 : Hid (Below w4.heap.size w4 w6) := by rw [Hid, Hw6.out]; exact hb.alloc hb.size _
  have HG : Hid (w4.heap.size ≤ p) := by rw [Hid, Hp.out]; exact hb.size
  have KL_w6 : Hid (Blk w6 p (o.v (.slice oa tl oc)) 51) := by rw [Hw6.out, Hp.out]; exact Blk.new _ _ _
  have RO_w6 : Hid (w6.ownsRow w4.heap.size 9 1 (.slice oa tl oc) tl TL) := by rw [Hid, Hw6.out]; exact row_below ho (below_new w5 _)
  rw [← Hw6.out, ← Hp.out]
  clear Hw6 Hp hb ho
  have a1 : w6.cell? ⟨w.heap.size, 1, none⟩ = some (.string o.node.name) := (KA_w4.out.below D_w6.out).cell 1 rfl
  go_wp2_with fail
  refine (CL.out o.node.name w6 S1.out).mono ?_
  rintro e w7 ⟨rfl, hb⟩
  have t1 := (KL_w6.out.below hb).cell 1 rfl
  have z := (KL_w6.out.below hb).open
  clear a1
  go_upto_region 6 with fail
  obtain ⟨w8, Hw8⟩ : ∃ x, Hid (x = w7.setCell ⟨p, 1, none⟩ (.string (lowS o.node.name))) := ⟨_, rfl⟩
  have D_w8 : Hid (Below w4.heap.size w4 w8) := by rw [Hid, Hw8.out]; exact (D_w6.out.trans (hb.mono D_w6.out.size)).setCell (p := ⟨p, 1, none⟩) HG.out _
  have KL_w8 : Hid (Blk w8 p ((oL1 o).v (.slice oa tl oc)) 51) := by rw [Hid, Hw8.out, ← oL1_v]; exact (KL_w6.out.below hb).put 1 _
  have RO_w8 : Hid (w8.ownsRow w4.heap.size 9 1 (.slice oa tl oc) tl TL) := by rw [Hid, Hw8.out]; exact rowN_set1 (KL_w6.out.below hb) (by decide) (row_below RO_w6.out hb) _
  rw [← Hw8.out]
  clear Hw8 hb t1 z D_w6 KL_w6 RO_w6
  have a1 : w8.cell? ⟨w.heap.size, 5, none⟩ = some (.string o.svc.node) := (KA_w4.out.below D_w8.out).cell 5 rfl
  go_wp2_with fail
  refine (CL.out o.svc.node w8 S2.out).mono ?_
  rintro e w9 ⟨rfl, hb⟩
  have t1 := (KL_w8.out.below hb).cell 5 rfl
  have z := (KL_w8.out.below hb).open
  clear a1
  go_upto_region 7 with fail
  obtain ⟨w10, Hw10⟩ : ∃ x, Hid (x = w9.setCell ⟨p, 5, none⟩ (.string (lowS o.svc.node))) := ⟨_, rfl⟩
  have D_w10 : Hid (Below w4.heap.size w4 w10) := by rw [Hid, Hw10.out]; exact (D_w8.out.trans (hb.mono D_w8.out.size)).setCell (p := ⟨p, 5, none⟩) HG.out _
  have KL_w10 : Hid (Blk w10 p ((oL2 o).v (.slice oa tl oc)) 51) := by rw [Hid, Hw10.out, ← oL2_v]; exact (KL_w8.out.below hb).put 5 _
  have RO_w10 : Hid (w10.ownsRow w4.heap.size 9 1 (.slice oa tl oc) tl TL) := by rw [Hid, Hw10.out]; exact rowN_set1 (KL_w8.out.below hb) (by decide) (row_below RO_w8.out hb) _
  rw [← Hw10.out]
  clear Hw10 hb t1 z D_w8 KL_w8 RO_w8
  have a1 : w10.cell? ⟨w.heap.size, 6, none⟩ = some (.string o.svc.id) := (KA_w4.out.below D_w10.out).cell 6 rfl
  go_wp2_with fail
  refine (CL.out o.svc.id w10 S3.out).mono ?_
  rintro e w11 ⟨rfl, hb⟩
  have t1 := (KL_w10.out.below hb).cell 6 rfl
  have z := (KL_w10.out.below hb).open
  clear a1
  go_upto_region 8 with fail
  obtain ⟨w12, Hw12⟩ : ∃ x, Hid (x = w11.setCell ⟨p, 6, none⟩ (.string (lowS o.svc.id))) := ⟨_, rfl⟩
  have D_w12 : Hid (Below w4.heap.size w4 w12) := by rw [Hid, Hw12.out]; exact (D_w10.out.trans (hb.mono D_w10.out.size)).setCell (p := ⟨p, 6, none⟩) HG.out _
  have KL_w12 : Hid (Blk w12 p ((oL3 o).v (.slice oa tl oc)) 51) := by rw [Hid, Hw12.out, ← oL3_v]; exact (KL_w10.out.below hb).put 6 _
  have RO_w12 : Hid (w12.ownsRow w4.heap.size 9 1 (.slice oa tl oc) tl TL) := by rw [Hid, Hw12.out]; exact rowN_set1 (KL_w10.out.below hb) (by decide) (row_below RO_w10.out hb) _
  rw [← Hw12.out]
  clear Hw12 hb t1 z D_w10 KL_w10 RO_w10
  have a1 : w12.cell? ⟨w.heap.size, 13, none⟩ = some (.string o.chk.id) := (KA_w4.out.below D_w12.out).cell 13 rfl
  go_wp2_with fail
  refine (CL.out o.chk.id w12 S4.out).mono ?_
  rintro e w13 ⟨rfl, hb⟩
  have t1 := (KL_w12.out.below hb).cell 13 rfl
  have z := (KL_w12.out.below hb).open
  clear a1
  go_upto_region 9 with fail
  obtain ⟨w14, Hw14⟩ : ∃ x, Hid (x = w13.setCell ⟨p, 13, none⟩ (.string (lowS o.chk.id))) := ⟨_, rfl⟩
  have D_w14 : Hid (Below w4.heap.size w4 w14) := by rw [Hid, Hw14.out]; exact (D_w12.out.trans (hb.mono D_w12.out.size)).setCell (p := ⟨p, 13, none⟩) HG.out _
  have KL_w14 : Hid (Blk w14 p ((oppL o).v (.slice oa tl oc)) 51) := by rw [Hid, Hw14.out, ← oL4_v]; exact (KL_w12.out.below hb).put 13 _
  have RO_w14 : Hid (w14.ownsRow w4.heap.size 9 1 (.slice oa tl oc) tl TL) := by rw [Hid, Hw14.out]; exact rowN_set1 (KL_w12.out.below hb) (by decide) (row_below RO_w12.out hb) _
  rw [← Hw14.out]
  clear Hw14 hb t1 z D_w12 KL_w12 RO_w12
  have a9 : w14.cell? ⟨p, 9, none⟩ = some (.slice oa tl oc) := KL_w14.out.cell 9 rfl
  go_wp2
  clear a9
  go_loopw [6, 7, 51] (fun v6 v7 i wr => ∃ k : Nat, k ≤ tl ∧ i = .int .i64 k ∧ Hid (Blk wr p ((oppL o).v (.slice oa tl oc)) 51) ∧ Hid (wr.ownsRow w4.heap.size 9 1 (.slice oa tl oc) tl ((lowK tg k).map Value.string)) ∧ Hid (Below w4.heap.size w4 wr)) (fun _ _ i _ => tl - (intOf i).toNat)
  case atStart => exact ⟨0, Nat.zero_le _, rfl, KL_w14, by rw [Hid, lowK_zero, ← HTL.out]; exact RO_w14.out, D_w14⟩
  case round =>
    obtain ⟨k, hk, rfl, KL, RO, DD⟩ := hrel
    clear KL_w14 RO_w14 D_w14
    by_cases hlt : k < tl
    · obtain ⟨g, rfl⟩ : ∃ g, oa = some ⟨g, 0, none⟩ := by
        rcases RO.out.2 with ⟨_, h0⟩ | ⟨g, cap, cur, he, _⟩
        · omega
        · injection he with h1; exact ⟨g, h1⟩
      have hkt : k < tg.length := by rw [← Htl.out]; exact hlt
      obtain ⟨cb, co, hcb, hcc⟩ := row_cells RO.out (by intro e; have := congrArg List.length e; rw [List.length_map, lowK_len, List.length_nil] at this; omega)
      simp only [Option.some.injEq, Addr.mk.injEq] at hcb
      obtain ⟨rfl, rfl, -⟩ := hcb
      have c0 := hcc k _ (lowK_at tg k hkt)
      rw [Nat.zero_add] at c0
      clear hcc
      have hnx : Hid (((lowK tg k).map Value.string).set k (.string (lowS tg[k])) = (lowK tg (k + 1)).map Value.string) := lowK_next tg k hkt
      have hsx : Hid (tg[k].size ≤ 140737488351296) := S5.out _ (List.getElem_mem hkt)
      obtain ⟨x, Hx⟩ : ∃ x, Hid (x = tg[k]) := ⟨tg[k], rfl⟩
      rw [← Hx.out] at c0 hnx hsx
      clear Hx
      obtain ⟨hgB, cur, hcur⟩ := rowN_blk RO.out
      have hgn : Hid (p ≠ g) := KL.out.apart hcur (by decide)
      have HGB : Hid (w4.heap.size ≤ g) := hgB
      clear hcur hgB
      have q9 : wr.cell? ⟨p, 9, none⟩ = some (.slice (some ⟨g, 0, none⟩) tl oc) := KL.out.cell 9 rfl
      go_wp2_with fail
      go_region_law
        (first
          | (go_simp
             go_at_call 13
             refine (CL.out x wr.drew hsx.out).mono ?_
             rintro e w21 ⟨rfl, hb21⟩
             have hbb := below_undrew hb21
             clear hb21
             have q10 : w21.cell? ⟨p, 9, none⟩ = some (.slice (some ⟨g, 0, none⟩) tl oc) := (KL.out.below hbb).cell 9 rfl
             obtain ⟨⟨cv, c1⟩, f1⟩ := rowN_at (row_below RO.out hbb) hlt
             have KL2 : Hid (Blk (w21.setCell ⟨g, k, none⟩ (.string (lowS x))) p ((oppL o).v (.slice (some ⟨g, 0, none⟩) tl oc)) 51) := (KL.out.below hbb).off hgn.out _
             have RO2 : Hid ((w21.setCell ⟨g, k, none⟩ (.string (lowS x))).ownsRow w4.heap.size 9 1 (.slice (some ⟨g, 0, none⟩) tl oc) tl ((lowK tg (k + 1)).map Value.string)) := by rw [Hid, ← hnx.out]; exact rowN_store (row_below RO.out hbb) hlt _
             have DD2 : Hid (Below w4.heap.size w4 (w21.setCell ⟨g, k, none⟩ (.string (lowS x)))) := (DD.out.trans (hbb.mono DD.out.size)).setCell (p := ⟨g, k, none⟩) HGB.out _
             clear hbb
             dsimp only))
      all_goals
        (go_wp2
         go_roundw
         case rel => exact ⟨k + 1, by omega, by go_num, KL2, RO2, DD2⟩
         case measure => simp [intOf]; omega)
    · have hkf : k = tl := by omega
      subst hkf
      have RL : Hid (CellsAt wr oa ((tg.map lowS).map Value.string)) := by
        have := row_cells RO.out
        rw [Htl.out, lowK_all] at this
        exact this
      obtain ⟨wa, Hwa⟩ : ∃ x, Hid (x = wr) := ⟨_, rfl⟩
      rw [← Hwa.out] at KL RO DD RL ⊢
      clear Hwa RO
      go_upto_region 14 with fail
      iterate 2 go_step
      refine wp_get_op rfl KL.out rfl rfl ?_
      go_wp2_with fail
      refine (C4.out oa oc wa RL.out (HV.out.stay (B_w4.out.trans (DD.out.mono B_w4.out.size)))).mono ?_
      rintro e w31 ⟨v, rfl, ho, hb⟩
      obtain ⟨ba, bc, rfl, -⟩ := row_forms ho
      dsimp only
      iterate 14 go_step
      refine wp_store_op rfl rfl rfl rfl rfl rfl (v_oneN _ _ _ _) ?_
      obtain ⟨w32, Hw32⟩ : ∃ x, Hid (x = w31.alloc (.cells (r.v (.slice ba fl bc)) 51)) := ⟨_, rfl⟩
      obtain ⟨p5, Hp5⟩ : ∃ x, Hid (x = w31.heap.size) := ⟨_, rfl⟩
      have KB : Hid (Blk w32 p5 (r.v (.slice ba fl bc)) 51) := by rw [Hw32.out, Hp5.out]; exact Blk.new _ _ _
      have RB : Hid (CellsAt w32 ba FL) := by rw [Hw32.out]; exact CellsAt.below (row_cells ho) (below_new w31 _)
      have D32 : Hid (Below w4.heap.size w4 w32) := by rw [Hid, Hw32.out]; exact (DD.out.trans (hb.mono DD.out.size)).alloc (Nat.le_trans DD.out.size hb.size) _
      rw [← Hw32.out, ← Hp5.out]
      clear Hw32 Hp5 hb ho KL DD RL
      have KR32 : Hid (Blk w32 p3 (r.v (.slice ra fl rc)) 51) := KR_w4.out.below D32.out
      have RR32 : Hid (CellsAt w32 ra FL) := RR_w4.out.below D32.out
      go_upto_region 15 with fail
      iterate 13 go_step
      refine wpList_get_opN (by rfl) rfl KR32.out rfl rfl ?_
      refine wpList_get_opN (by rfl) rfl KB.out rfl rfl ?_
      go_wp2_with fail
      refine (C6.out ra ba rc bc w32 RR32.out RB.out).mono ?_
      rintro e w33 ⟨rfl, hb⟩
      have D33 : Hid (Below w4.heap.size w4 w33) := D32.out.trans (hb.mono D32.out.size)
      clear hb KB RB D32 KR32 RR32
      by_cases hn0 : ne = 0
      · have H0 : Hid (ne = 0) := hn0
        have qn : (ne != 0) = false := by simpa using hn0
        have qn2 : (ne == 0) = true := by simpa using hn0
        clear hn0
        have KR33 : Hid (Blk w33 p3 (r.v (.slice ra fl rc)) 51) := KR_w4.out.below D33.out
        have RR33 : Hid (CellsAt w33 ra FL) := RR_w4.out.below D33.out
        go_upto_region 19 with fail
        iterate 2 go_step
        refine wp_get_op rfl KR33.out rfl rfl ?_
        go_wp2_with fail
        refine (C2.out ra rc w33 RR33.out).mono ?_
        rintro e w34 ⟨v, rfl, ho, hb⟩
        obtain ⟨da, dc, rfl, -⟩ := row_forms ho
        have RD34 : Hid (CellsAt w34 da FL) := row_cells ho
        have D34 : Hid (Below w4.heap.size w4 w34) := D33.out.trans (hb.mono D33.out.size)
        clear ho hb KR33 RR33 D33
        dsimp only
        go_wp2_with fail
        refine (C5.out da dc w34 H0.out RD34.out (HV.out.stay (B_w4.out.trans (D34.out.mono B_w4.out.size)))).mono ?_
        rintro e w35 ⟨v, rfl, ho, hb⟩
        obtain ⟨ea, ec, rfl, -⟩ := row_forms ho
        dsimp only
        iterate 14 go_step
        refine wp_store_op rfl rfl rfl rfl rfl rfl (v_oneN _ _ _ _) ?_
        obtain ⟨w36, Hw36⟩ : ∃ x, Hid (x = w35.alloc (.cells (r.v (.slice ea fl ec)) 51)) := ⟨_, rfl⟩
        obtain ⟨p6, Hp6⟩ : ∃ x, Hid (x = w35.heap.size) := ⟨_, rfl⟩
        have KB : Hid (Blk w36 p6 (r.v (.slice ea fl ec)) 51) := by rw [Hw36.out, Hp6.out]; exact Blk.new _ _ _
        have RB : Hid (CellsAt w36 ea FL) := by rw [Hw36.out]; exact CellsAt.below (row_cells ho) (below_new w35 _)
        have D36 : Hid (Below w4.heap.size w4 w36) := by rw [Hid, Hw36.out]; exact (D34.out.trans (hb.mono D34.out.size)).alloc (Nat.le_trans D34.out.size hb.size) _
        rw [← Hw36.out, ← Hp6.out]
        clear Hw36 Hp6 hb ho RD34 D34
        have KR36 : Hid (Blk w36 p3 (r.v (.slice ra fl rc)) 51) := KR_w4.out.below D36.out
        have RR36 : Hid (CellsAt w36 ra FL) := RR_w4.out.below D36.out
        go_upto_region 20 with fail
        iterate 10 go_step
        refine wpList_get_opN (by rfl) rfl KR36.out rfl rfl ?_
        refine wpList_get_opN (by rfl) rfl KB.out rfl rfl ?_
        go_wp2_with fail
        refine (C6.out ra ea rc ec w36 RR36.out RB.out).mono ?_
        rintro e w37 ⟨rfl, hb⟩
        have D37 : Hid (Below w4.heap.size w4 w37) := D36.out.trans (hb.mono D36.out.size)
        clear hb KB RB D36 KR36 RR36
        have hfl : fl ≤ 1048576 := HrL.out
        go_wp2
        go_loopw [12] (fun i wr => ∃ j : Nat, (j ≤ fl ∨ j = 0) ∧ i = .int .i64 ((j : Int) + 1) ∧ Hid (Below w4.heap.size w4 wr)) (fun i _ => fl + 1 - (intOf i).toNat)
        case atStart => exact ⟨0, .inr rfl, rfl, D37⟩
        case round =>
          obtain ⟨j, hj, rfl, DE⟩ := hrel
          clear D37
          have q9 : wr.cell? ⟨p3, 9, none⟩ = some (.slice ra fl rc) := (KR_w4.out.below DE.out).cell 9 rfl
          by_cases hjt : j + 1 < fl
          · have hj1 : j + 1 < rt.length := by rw [← Hfl.out]; exact hjt
            have hcel := RR_w4.out.below DE.out
            obtain ⟨kb, ko, rfl, hcc⟩ := hcel (by rw [HFL.out]; intro e; have := congrArg List.length e; rw [List.length_map, List.length_nil] at this; omega)
            have c0 : wr.cell? ⟨kb, ko + j, none⟩ = some (.string (rt[j]'(by omega))) := hcc _ _ (by rw [HFL.out]; simp [show j < rt.length by omega])
            have c1 : wr.cell? ⟨kb, ko + (j + 1), none⟩ = some (.string rt[j + 1]) := hcc _ _ (by rw [HFL.out]; simp [hj1])
            have q2 := rises_at HRi.out j hj1
            generalize (rt[j]'(by omega)) = x at *
            generalize rt[j + 1] = y at *
            have hi1 : (j : Int) + 1 < (fl : Int) := by omega
            have hi2 : (j : Int) < (fl : Int) := by omega
            have hi3 : (0 : Int) ≤ (j : Int) := by omega
            have hi4 : (0 : Int) ≤ (j : Int) + 1 := by omega
            have hi5 : (j : Int) + 1 - 1 = (j : Int) := by omega
            have hi6 : ((j : Int) + 1).toNat = j + 1 := by omega
            clear hcel hcc
            go_wp2
            go_quiet (fail)
            go_wp2
            go_roundw
            case rel => exact ⟨j + 1, .inl (by omega), by go_num, by first | exact DE | exact below_drewN DE.out _⟩
            case measure => simp [intOf]; omega
          · have q2 : ¬ ((j : Int) + 1 < (fl : Int)) := by omega
            have b3 : wr.cell? ⟨p3, 3, none⟩ = some (.int .u64 0) := by rw [← Hz1.out]; exact (KR_w4.out.below DE.out).cell 3 rfl
            have b4 : wr.cell? ⟨p3, 4, none⟩ = some (.int .u64 0) := by rw [← Hz2.out]; exact (KR_w4.out.below DE.out).cell 4 rfl
            have b10 : wr.cell? ⟨p3, 10, none⟩ = some (.int .u64 0) := by rw [← Hz3.out]; exact (KR_w4.out.below DE.out).cell 10 rfl
            have b11 : wr.cell? ⟨p3, 11, none⟩ = some (.int .u64 0) := by rw [← Hz4.out]; exact (KR_w4.out.below DE.out).cell 11 rfl
            have b17 : wr.cell? ⟨p3, 17, none⟩ = some (.int .u64 0) := by rw [← Hz5.out]; exact (KR_w4.out.below DE.out).cell 17 rfl
            have b18 : wr.cell? ⟨p3, 18, none⟩ = some (.int .u64 0) := by rw [← Hz6.out]; exact (KR_w4.out.below DE.out).cell 18 rfl
            go_wp2
            go_ret
            exact ⟨rfl, B_w4.out.trans (DE.out.mono B_w4.out.size)⟩
      · have qn : (ne != 0) = true := by simpa using hn0
        have qn2 : (ne == 0) = false := by simpa using hn0
        go_wp2
        go_ret
        exact ⟨rfl, B_w4.out.trans (D33.out.mono B_w4.out.size)⟩
end Go.Proofs.YtgjcchafmcccjaaDoor
