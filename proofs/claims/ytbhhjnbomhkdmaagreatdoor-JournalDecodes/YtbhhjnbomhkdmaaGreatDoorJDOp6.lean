/- Layer 13 (journal): the document's opAt, of kind 6. -/
import Derived.Test.YtbhhjnbomhkdmaaGreatDoorJDOpT
namespace Go.Proofs.YtbhhjnbomhkdmaaGreatDoor
open Go.RowKit
set_option linter.unusedVariables false

set_option maxRecDepth 100000 in
set_option maxHeartbeats 8000000 in
theorem opAt_dchkF (xb xo cap : Nat) (l : List UInt8) (p : Nat) (w : World) (hl : l.length ≤ 131072) (hcap : l.length < cap) (hcm : cap ≤ maxLen) (hp : p ≤ l.length) (h : BAt w (some ⟨xb, xo, none⟩) l) (hs : p + 2 ≤ l.length) (c0 c1 : UInt8) (hg0 : l[p]? = some c0) (hg1 : l[p + 1]? = some c1) (hcs : c1 ≠ 1) (hkk : c0.toNat = 6) :
  Calls Tryz.prog 34 #[.slice (some ⟨xb, xo, none⟩) l.length cap, .int .i64 (p : Nat)] w (OpAtA w l p) := by
 have HRA : Hid (raP (l.drop p) = rbP 6 false 0 (l.drop (p + 2))) := by have := raP_F hs hg0 hg1 hcs (by omega); rw [hkk] at this; exact this
 obtain ⟨wx, Hwx⟩ : ∃ x, Hid (x = w.alloc (.cells (oppZ.v (.slice none 0 0)) 54)) := ⟨_, rfl⟩
 have HB : Hid (Below w.heap.size w wx) := by rw [Hwx.out]; exact below_new w _
 have HX : Hid (Blk wx w.heap.size (oppZ.v (.slice none 0 0)) 54) := by rw [Hwx.out]; exact Blk.new _ _ _
 have HT : Hid (BAt w (some ⟨xb, xo, none⟩) l) := h
 obtain ⟨N, HN⟩ : ∃ N, Hid (N = l.length) := ⟨_, rfl⟩
 clear h
 rw [← HN.out] at hl hcap hp hs ⊢
 go_enter Tryz.func34, Tryz.ntmps34
 go_upto_region 1 with fail
 change Code.wp _ _ _ _ (w.alloc (.cells (oppZ.v (.slice none 0 0)) 54))
 rw [← Hwx.out]
 clear Hwx
 iterate 8 go_step
 refine wp_store_op (c' := Opp.v oppZ (.slice none 0 0)) rfl rfl rfl rfl rfl rfl (v_oneN _ _ _ _) ?_
 obtain ⟨w2, Hw2⟩ : ∃ x, Hid (x = wx.alloc (.cells (Opp.v oppZ (.slice none 0 0)) 54)) := ⟨_, rfl⟩
 have hsz1 : w.heap.size + 1 ≤ wx.heap.size := by have := HX.out.lt; omega
 have HI2 : Hid (DI w w.heap.size wx.heap.size (Opp.v oppZ (.slice none 0 0)) (oppZ.v (.slice none 0 0)) w2) := by
  rw [Hw2.out]
  exact ⟨HB.out.trans ((below_new _ _).mono HB.out.size), Blk.new _ _ _, HX.out.alloc _⟩
 rw [← Hw2.out]
 obtain ⟨g3, Hg3⟩ : ∃ x, Hid (x = wx.heap.size) := ⟨_, rfl⟩
 rw [← Hg3.out] at HI2 hsz1 ⊢
 obtain ⟨g2, Hg2⟩ : ∃ x, Hid (x = w.heap.size) := ⟨_, rfl⟩
 have h3w : w.heap.size ≤ g3 := by omega
 have h23 : g2 ≠ g3 := by rw [Hg2.out]; omega
 have h2w : w.heap.size ≤ g2 := by rw [Hg2.out]; exact Nat.le_refl _
 rw [← Hg2.out] at HI2 ⊢
 clear Hw2 Hg3 HX hsz1 HB Hg2
 obtain ⟨b0, o0, e0, hc0⟩ := (HT.out.below (HI2.out.bl)).at p (by rw [← HN.out]; omega)
 obtain ⟨rfl, rfl⟩ : xb = b0 ∧ xo = o0 := by simpa using e0
 rw [show l[p]'(by rw [← HN.out]; omega) = c0 from Option.some.inj ((List.getElem?_eq_getElem (by rw [← HN.out]; omega)).symm.trans hg0)] at hc0
 have hcl0 := byte_le c0
 have HT2 : Hid (BAt w2 (some ⟨xb, xo, none⟩) l) := HT.out.below HI2.out.bl
 have x0 : w2.cell? ⟨g3, 0, none⟩ = some (.int .i64 0) := HI2.out.k3.cell 0 rfl
 have f0 := HI2.out.k3.open 0
 obtain ⟨kd, Hkd⟩ : ∃ x, Hid (x = c0.toNat) := ⟨_, rfl⟩
 rw [← Hkd.out] at hc0 hcl0
 obtain ⟨w4, Hw4⟩ : ∃ x, Hid (x = putC w2 g3 0 [.int .i64 (kd : Nat)]) := ⟨_, rfl⟩
 have HI4 : Hid (DI w g2 g3 (Opp.v ⟨(kd : Nat), nodeZ, svcZ, chkZ, false, 0⟩ (.slice none 0 0)) (oppZ.v (.slice none 0 0)) w4) := by rw [Hw4.out]; exact HI2.out.put h3w h23 [.int .i64 (kd : Nat)] 0 rfl (Nat.le_of_ble_eq_true rfl)
 clear e0 HI2 HT2
 go_upto_region 5 with fail
 change Code.wp _ _ _ _ (putC w2 g3 0 [.int .i64 (kd : Nat)])
 rw [← Hw4.out]
 clear Hw4 x0 f0 hc0
 obtain ⟨b1, o1, e1, hc1⟩ := (HT.out.below (HI4.out.bl)).at (p + 1) (by rw [← HN.out]; omega)
 obtain ⟨rfl, rfl⟩ : xb = b1 ∧ xo = o1 := by simpa using e1
 rw [show l[p + 1]'(by rw [← HN.out]; omega) = c1 from Option.some.inj ((List.getElem?_eq_getElem (by rw [← HN.out]; omega)).symm.trans hg1)] at hc1
 have hcq : ((c1.toNat : Int) == 1) = false := by
  simp
  intro e
  exact hcs (UInt8.toNat_inj.1 (by simpa using (by omega : c1.toNat = 1)))
 have hcl1 := byte_le c1
 have x19 : w4.cell? ⟨g3, 19, none⟩ = some (.bool false) := HI4.out.k3.cell 19 rfl
 have f19 := HI4.out.k3.open 19
 obtain ⟨w5, Hw5⟩ : ∃ x, Hid (x = putC w4 g3 19 [.bool false]) := ⟨_, rfl⟩
 have HI5 : Hid (DI w g2 g3 (Opp.v ⟨(kd : Nat), nodeZ, svcZ, chkZ, false, 0⟩ (.slice none 0 0)) (oppZ.v (.slice none 0 0)) w5) := by rw [Hw5.out]; exact HI4.out.put h3w h23 [.bool false] 19 rfl (Nat.le_of_ble_eq_true rfl)
 clear e1 HI4
 go_upto_region 6 with fail
 change Code.wp _ _ _ _ (putC w4 g3 19 [.bool false])
 rw [← Hw5.out]
 clear Hw5 x19 f19 hc1 hcq hcl1
 have x19 : w5.cell? ⟨g3, 19, none⟩ = some (.bool false) := HI5.out.k3.cell 19 rfl
 obtain ⟨gm, Hgm⟩ : ∃ x, Hid (x = w5.heap.size) := ⟨_, rfl⟩
 go_upto_region 17 with fail
 change Code.wp _ _ _ _ (w5.alloc (.cells #[.int .i64 0, .int .i64 2, .int .i64 3, .int .i64 3, .int .i64 1, .int .i64 2, .int .i64 2] 107))
 obtain ⟨w7, Hw7⟩ : ∃ x, Hid (x = w5.alloc (.cells #[.int .i64 0, .int .i64 2, .int .i64 3, .int .i64 3, .int .i64 1, .int .i64 2, .int .i64 2] 107)) := ⟨_, rfl⟩
 have HI7 : Hid (DI w g2 g3 (Opp.v ⟨(kd : Nat), nodeZ, svcZ, chkZ, false, 0⟩ (.slice none 0 0)) (oppZ.v (.slice none 0 0)) w7) := by rw [Hw7.out]; exact HI5.out.below (below_new _ _)
 have HM : Hid (Blk w7 gm #[.int .i64 0, .int .i64 2, .int .i64 3, .int .i64 3, .int .i64 1, .int .i64 2, .int .i64 2] 107) := by rw [Hw7.out, Hgm.out]; exact Blk.new _ _ _
 rw [← Hw7.out, ← Hgm.out]
 clear Hgm Hw7 HI5
 have x0 : w7.cell? ⟨g3, 0, none⟩ = some (.int .i64 (kd : Nat)) := HI7.out.k3.cell 0 rfl
 obtain rfl : kd = 6 := by rw [Hkd.out]; exact hkk
 clear Hkd
 have xm : w7.cell? ⟨gm, 6, none⟩ = some (.int .i64 2) := HM.out.cell 6 rfl
 have HC : Hid (Calls Tryz.prog 53 #[.slice (some ⟨xb, xo, none⟩) N cap, .int .i64 ((p : Int) + 2), .int .i64 2] w7 (CutA w7 l (p + 2) 2)) := by
  have := cut_calls xb xo cap l (p + 2) 2 w7 (by rw [← HN.out]; exact hl) (by rw [← HN.out]; exact hcap) hcm (by rw [← HN.out]; omega) (by omega) (HT.out.below HI7.out.bl)
  rw [← HN.out] at this
  exact this
 go_wp2_with fail
 refine HC.out.mono ?_
 clear HC xm
 rintro e w8 ⟨hb, ⟨hok, v, q, rfl, hq, hrest, hrow⟩ | ⟨hodd, rfl⟩⟩
 ·obtain ⟨t0, t1, ht0⟩ : ∃ t0 t1, (txsP 2 (l.drop (p + 2), false)).1 = [t0, t1] := list_two (txsP_len 2 _).1
  rw [ht0] at hrow
  obtain ⟨ao, vc, rfl, -⟩ := row_forms hrow
  have HROW : Hid (w8.ownsRow w7.heap.size 9 1 (.slice ao 2 vc) 2 [.string t0, .string t1]) := hrow
  obtain ⟨rb, ro, rfl, -⟩ := row_cells hrow (by simp)
  rw [← HN.out] at hq
  have HI8 : Hid (DI w g2 g3 (Opp.v ⟨(6 : Nat), nodeZ, svcZ, chkZ, false, 0⟩ (.slice none 0 0)) (oppZ.v (.slice none 0 0)) w8) := HI7.out.below hb
  simp only [List.length_cons, List.length_nil, Nat.zero_add, Nat.reduceAdd]
  have HPO : Hid (raP (l.drop p) = some (⟨6, nodeZ, svcZ, ⟨t0, t1, ⟨#[]⟩, 0, ⟨#[]⟩, 0, 0⟩, false, 0⟩, l.drop q)) := by
   show _ = _
   rw [HRA.out]
   simp only [rbP, manyP]
   simp [hok, ht0, hrest, tAt]
  clear hb hok hrest hrow HI7 HRA HM
  have x0 : w8.cell? ⟨g3, 0, none⟩ = some (.int .i64 ((6 : Nat) : Int)) := HI8.out.k3.cell 0 rfl
  obtain ⟨rb', ro', e', hcl⟩ := row_cells HROW.out (by simp)
  obtain ⟨rfl, rfl⟩ : rb = rb' ∧ ro = ro' := by simpa using e'
  have y0 : w8.cell? ⟨rb, ro, none⟩ = some (.string t0) := by simpa using hcl 0 (.string t0) rfl
  have x1 : w8.cell? ⟨g3, 12, none⟩ = some (.string ⟨#[]⟩) := HI8.out.k3.cell 12 rfl
  have f1 := HI8.out.k3.open 12
  obtain ⟨v0, Hv0⟩ : ∃ x, Hid (x = putC w8 g3 12 [.string t0]) := ⟨_, rfl⟩
  have HJ0 : Hid (DI w g2 g3 (Opp.v ⟨6, nodeZ, svcZ, ⟨t0, ⟨#[]⟩, ⟨#[]⟩, 0, ⟨#[]⟩, 0, 0⟩, false, 0⟩ (.slice none 0 0)) (oppZ.v (.slice none 0 0)) v0) := by rw [Hv0.out]; exact HI8.out.put h3w h23 [.string t0] 12 rfl (Nat.le_of_ble_eq_true rfl)
  have HR0 : Hid (v0.ownsRow w7.heap.size 9 1 (.slice (some ⟨rb, ro, none⟩) 2 vc) 2 [.string t0, .string t1]) := by rw [Hv0.out]; exact row_putK HI8.out.k3 (by decide) HROW.out _ _
  clear HI8 HROW hcl e'
  go_upto_region 46 with fail
  change Code.wp _ _ _ _ (putC w8 g3 12 [.string t0])
  rw [← Hv0.out]
  clear Hv0 x1 f1 y0
  obtain ⟨rb', ro', e', hcl⟩ := row_cells HR0.out (by simp)
  obtain ⟨rfl, rfl⟩ : rb = rb' ∧ ro = ro' := by simpa using e'
  have y0 : v0.cell? ⟨rb, ro + 1, none⟩ = some (.string t1) := hcl 1 _ rfl
  have x1 : v0.cell? ⟨g3, 13, none⟩ = some (.string ⟨#[]⟩) := HJ0.out.k3.cell 13 rfl
  have f1 := HJ0.out.k3.open 13
  obtain ⟨v1, Hv1⟩ : ∃ x, Hid (x = putC v0 g3 13 [.string t1]) := ⟨_, rfl⟩
  have HJ1 : Hid (DI w g2 g3 (Opp.v ⟨6, nodeZ, svcZ, ⟨t0, t1, ⟨#[]⟩, 0, ⟨#[]⟩, 0, 0⟩, false, 0⟩ (.slice none 0 0)) (oppZ.v (.slice none 0 0)) v1) := by rw [Hv1.out]; exact HJ0.out.put h3w h23 [.string t1] 13 rfl (Nat.le_of_ble_eq_true rfl)
  have HR1 : Hid (v1.ownsRow w7.heap.size 9 1 (.slice (some ⟨rb, ro, none⟩) 2 vc) 2 [.string t0, .string t1]) := by rw [Hv1.out]; exact row_putK HJ0.out.k3 (by decide) HR0.out _ _
  clear HJ0 HR0 hcl e'
  go_upto_region 47 with fail
  change Code.wp _ _ _ _ (putC v0 g3 13 [.string t1])
  rw [← Hv1.out]
  clear Hv1 x1 f1 y0
  have HIe := HJ1
  clear HJ1 HR1 x0
  obtain ⟨oo, Hoo⟩ : ∃ x : Opp, Hid (x = ⟨6, nodeZ, svcZ, ⟨t0, t1, ⟨#[]⟩, 0, ⟨#[]⟩, 0, 0⟩, false, 0⟩) := ⟨_, rfl⟩
  have HFin : Hid (OpAtA w l p (.returned (.tuple #[.agg (oo.v (.slice none 0 0)), .int .i64 (q : Nat)])) (v1.setRow g2 (oo.v (.slice none 0 0)))) := by
   refine ⟨below_setRow HIe.out.bl h2w _, .inl ⟨oo, q, .slice none 0 0, by rw [HPO.out, Hoo.out] <;> rfl, by rw [← HN.out]; exact hq, rfl, ?_⟩⟩
   rw [Hoo.out]
   exact World.ownsRow_nil _ _ _ _
  have HK3 : Hid (Blk v1 g3 (oo.v (.slice none 0 0)) 54) := by rw [Hoo.out]; exact HIe.out.k3
  have HK2 : Hid (Blk v1 g2 (oppZ.v (.slice none 0 0)) 54) := HIe.out.k2
  have HLd : Hid ((loadVar 54 ⟨g2, 0, none⟩).run Tryz.prog (v1.setRow g2 (oo.v (.slice none 0 0))) = .ok (.agg (oo.v (.slice none 0 0))) (v1.setRow g2 (oo.v (.slice none 0 0)))) := load_op (blk_setRow HK2.out _) rfl
  have HONE : Hid ((oo.v (.slice none 0 0)).all (·.oneCell') = true) := v_oneN _ _ _ _
  clear HIe HPO Hoo
  iterate 2 go_step
  refine wp_get_op rfl HK3.out rfl rfl ?_
  iterate 5 go_step
  refine wp_put_op rfl HK2.out rfl rfl rfl rfl HONE.out ?_
  go_wp2
  exact ret_box45 (g := g2) (w := (v1.setRow g2 (oo.v (.slice none 0 0)))) rfl rfl rfl rfl HLd.out HFin.out
 ·have HNo : Hid (raP (l.drop p) = none) := by
   show _ = _
   rw [HRA.out]
   simp only [rbP, manyP]
   simp [hodd]
  have HI8 : Hid (DI w g2 g3 (Opp.v ⟨(6 : Nat), nodeZ, svcZ, chkZ, false, 0⟩ (.slice none 0 0)) (oppZ.v (.slice none 0 0)) w8) := HI7.out.below hb
  clear hb hodd HI7 HRA HM
  have HNone : Hid (raP (l.drop p) = none) := HNo
  obtain ⟨CC, HCC⟩ : ∃ x : Array Value, Hid (x = Opp.v ⟨(6 : Nat), nodeZ, svcZ, chkZ, false, 0⟩ (.slice none 0 0)) := ⟨_, rfl⟩
  have HK3 : Hid (Blk w8 g3 CC 54) := by rw [HCC.out]; exact HI8.out.k3
  have HK2 : Hid (Blk w8 g2 (oppZ.v (.slice none 0 0)) 54) := HI8.out.k2
  have HS : Hid (CC.size = 21) := by rw [HCC.out]; rfl
  have HONE : Hid (CC.all (·.oneCell') = true) := by rw [HCC.out]; exact v_oneN _ _ _ _
  have HLd : Hid ((loadVar 54 ⟨g2, 0, none⟩).run Tryz.prog (w8.setRow g2 CC) = .ok (.agg CC) (w8.setRow g2 CC)) := load_op (blk_setRow HK2.out _) HS.out
  have HFin : Hid (OpAtA w l p (.returned (.tuple #[.agg CC, .int .i64 (-1)])) (w8.setRow g2 CC)) := ⟨below_setRow HI8.out.bl h2w _, .inr ⟨HNone.out, _, HS.out, HONE.out, rfl⟩⟩
  clear HI8 HNone HCC
  go_upto_region 21 with fail
  iterate 2 go_step
  refine wp_get_op rfl HK3.out rfl HS.out ?_
  iterate 2 go_step
  refine wp_put_op rfl HK2.out rfl rfl rfl HS.out HONE.out ?_
  go_wp2
  exact ret_box45 (g := g2) (w := (w8.setRow g2 CC)) rfl rfl rfl rfl HLd.out HFin.out

set_option maxRecDepth 100000 in
set_option maxHeartbeats 8000000 in
theorem opAt_dchkT (xb xo cap : Nat) (l : List UInt8) (p : Nat) (w : World) (hl : l.length ≤ 131072) (hcap : l.length < cap) (hcm : cap ≤ maxLen) (hp : p ≤ l.length) (h : BAt w (some ⟨xb, xo, none⟩) l) (hs : p + 2 ≤ l.length) (c0 c1 : UInt8) (hg0 : l[p]? = some c0) (hg1 : l[p + 1]? = some c1) (hcs : c1 = 1) (hs2 : p + 10 ≤ l.length) (hkk : c0.toNat = 6) :
  Calls Tryz.prog 34 #[.slice (some ⟨xb, xo, none⟩) l.length cap, .int .i64 (p : Nat)] w (OpAtA w l p) := by
 have HRA0 : Hid (raP (l.drop p) = rbP 6 true (unbig ((l.drop (p + 2)).take 8)) (l.drop (p + 10))) := by have := raP_T hs2 hg0 hg1 hcs (by omega); rw [hkk] at this; exact this
 obtain ⟨wx, Hwx⟩ : ∃ x, Hid (x = w.alloc (.cells (oppZ.v (.slice none 0 0)) 54)) := ⟨_, rfl⟩
 have HB : Hid (Below w.heap.size w wx) := by rw [Hwx.out]; exact below_new w _
 have HX : Hid (Blk wx w.heap.size (oppZ.v (.slice none 0 0)) 54) := by rw [Hwx.out]; exact Blk.new _ _ _
 have HT : Hid (BAt w (some ⟨xb, xo, none⟩) l) := h
 obtain ⟨N, HN⟩ : ∃ N, Hid (N = l.length) := ⟨_, rfl⟩
 clear h
 rw [← HN.out] at hl hcap hp hs hs2 ⊢
 go_enter Tryz.func34, Tryz.ntmps34
 go_upto_region 1 with fail
 change Code.wp _ _ _ _ (w.alloc (.cells (oppZ.v (.slice none 0 0)) 54))
 rw [← Hwx.out]
 clear Hwx
 iterate 8 go_step
 refine wp_store_op (c' := Opp.v oppZ (.slice none 0 0)) rfl rfl rfl rfl rfl rfl (v_oneN _ _ _ _) ?_
 obtain ⟨w2, Hw2⟩ : ∃ x, Hid (x = wx.alloc (.cells (Opp.v oppZ (.slice none 0 0)) 54)) := ⟨_, rfl⟩
 have hsz1 : w.heap.size + 1 ≤ wx.heap.size := by have := HX.out.lt; omega
 have HI2 : Hid (DI w w.heap.size wx.heap.size (Opp.v oppZ (.slice none 0 0)) (oppZ.v (.slice none 0 0)) w2) := by
  rw [Hw2.out]
  exact ⟨HB.out.trans ((below_new _ _).mono HB.out.size), Blk.new _ _ _, HX.out.alloc _⟩
 rw [← Hw2.out]
 obtain ⟨g3, Hg3⟩ : ∃ x, Hid (x = wx.heap.size) := ⟨_, rfl⟩
 rw [← Hg3.out] at HI2 hsz1 ⊢
 obtain ⟨g2, Hg2⟩ : ∃ x, Hid (x = w.heap.size) := ⟨_, rfl⟩
 have h3w : w.heap.size ≤ g3 := by omega
 have h23 : g2 ≠ g3 := by rw [Hg2.out]; omega
 have h2w : w.heap.size ≤ g2 := by rw [Hg2.out]; exact Nat.le_refl _
 rw [← Hg2.out] at HI2 ⊢
 clear Hw2 Hg3 HX hsz1 HB Hg2
 obtain ⟨b0, o0, e0, hc0⟩ := (HT.out.below (HI2.out.bl)).at p (by rw [← HN.out]; omega)
 obtain ⟨rfl, rfl⟩ : xb = b0 ∧ xo = o0 := by simpa using e0
 rw [show l[p]'(by rw [← HN.out]; omega) = c0 from Option.some.inj ((List.getElem?_eq_getElem (by rw [← HN.out]; omega)).symm.trans hg0)] at hc0
 have hcl0 := byte_le c0
 have HT2 : Hid (BAt w2 (some ⟨xb, xo, none⟩) l) := HT.out.below HI2.out.bl
 have x0 : w2.cell? ⟨g3, 0, none⟩ = some (.int .i64 0) := HI2.out.k3.cell 0 rfl
 have f0 := HI2.out.k3.open 0
 obtain ⟨kd, Hkd⟩ : ∃ x, Hid (x = c0.toNat) := ⟨_, rfl⟩
 rw [← Hkd.out] at hc0 hcl0
 obtain ⟨w4, Hw4⟩ : ∃ x, Hid (x = putC w2 g3 0 [.int .i64 (kd : Nat)]) := ⟨_, rfl⟩
 have HI4 : Hid (DI w g2 g3 (Opp.v ⟨(kd : Nat), nodeZ, svcZ, chkZ, false, 0⟩ (.slice none 0 0)) (oppZ.v (.slice none 0 0)) w4) := by rw [Hw4.out]; exact HI2.out.put h3w h23 [.int .i64 (kd : Nat)] 0 rfl (Nat.le_of_ble_eq_true rfl)
 clear e0 HI2 HT2
 go_upto_region 5 with fail
 change Code.wp _ _ _ _ (putC w2 g3 0 [.int .i64 (kd : Nat)])
 rw [← Hw4.out]
 clear Hw4 x0 f0 hc0
 obtain ⟨b1, o1, e1, hc1⟩ := (HT.out.below (HI4.out.bl)).at (p + 1) (by rw [← HN.out]; omega)
 obtain ⟨rfl, rfl⟩ : xb = b1 ∧ xo = o1 := by simpa using e1
 rw [show l[p + 1]'(by rw [← HN.out]; omega) = c1 from Option.some.inj ((List.getElem?_eq_getElem (by rw [← HN.out]; omega)).symm.trans hg1)] at hc1
 have hcq : ((c1.toNat : Int) == 1) = true := by
  rw [hcs]; rfl
 have hcl1 := byte_le c1
 have x19 : w4.cell? ⟨g3, 19, none⟩ = some (.bool false) := HI4.out.k3.cell 19 rfl
 have f19 := HI4.out.k3.open 19
 obtain ⟨w5, Hw5⟩ : ∃ x, Hid (x = putC w4 g3 19 [.bool true]) := ⟨_, rfl⟩
 have HI5 : Hid (DI w g2 g3 (Opp.v ⟨(kd : Nat), nodeZ, svcZ, chkZ, true, 0⟩ (.slice none 0 0)) (oppZ.v (.slice none 0 0)) w5) := by rw [Hw5.out]; exact HI4.out.put h3w h23 [.bool true] 19 rfl (Nat.le_of_ble_eq_true rfl)
 clear e1 HI4
 go_upto_region 6 with fail
 change Code.wp _ _ _ _ (putC w4 g3 19 [.bool true])
 rw [← Hw5.out]
 clear Hw5 x19 f19 hc1 hcq hcl1
 have x19 : w5.cell? ⟨g3, 19, none⟩ = some (.bool true) := HI5.out.k3.cell 19 rfl
 obtain ⟨pw, Hpw⟩ : ∃ x, Hid (x = (l.drop (p + 2)).take 8) := ⟨_, rfl⟩
 have hpl : pw.length = 8 := by rw [Hpw.out, List.length_take, List.length_drop, ← HN.out]; omega
 go_wp2
 go_loopw [8, 51] (fun _ i wr => ∃ k : Nat, k ≤ 8 ∧ i = .int .i64 k ∧ Hid (DI w g2 g3 (Opp.v ⟨(kd : Nat), nodeZ, svcZ, chkZ, true, (unbig (pw.take k) : Nat)⟩ (.slice none 0 0)) (oppZ.v (.slice none 0 0)) wr)) (fun _ i _ => 8 - (intOf i).toNat)
 case atStart => exact ⟨0, Nat.zero_le _, rfl, HI5⟩
 case round =>
  obtain ⟨k, hk, rfl, HI⟩ := hrel
  clear HI5 x19
  obtain ⟨t, Ht⟩ : ∃ t, Hid (t = unbig (pw.take k)) := ⟨_, rfl⟩
  rw [← Ht.out] at HI
  by_cases hlt : k < 8
  ·have ht : t < 72057594037927936 := by
    have h1 := unbig_lt (pw.take k).length (pw.take k) rfl
    rw [← Ht.out] at h1
    have h2 : (pw.take k).length ≤ 7 := by rw [List.length_take]; omega
    exact Nat.lt_of_lt_of_le h1 (Nat.le_trans (Nat.pow_le_pow_right (by decide) h2) (by decide))
   obtain ⟨b2, o2, e2, hc2⟩ := (HT.out.below (HI.out.bl)).at (p + 2 + k) (by rw [← HN.out]; omega)
   obtain ⟨rfl, rfl⟩ : xb = b2 ∧ xo = o2 := by simpa using e2
   have hq2 : p + 2 + k < l.length := by rw [← HN.out]; omega
   obtain ⟨c, Hc⟩ : ∃ c : UInt8, Hid (c = l[p + 2 + k]'hq2) := ⟨_, rfl⟩
   rw [← Hc.out, ← Nat.add_assoc xo] at hc2
   have hcl := byte_le c
   have HNx : Hid (unbig (pw.take (k + 1)) = t * 256 + c.toNat) := by
    have hpk : pw[k]'(by omega) = c := by
     have h1 : pw[k]? = l[p + 2 + k]? := by rw [Hpw.out, List.getElem?_take_of_lt hlt, List.getElem?_drop]
     rw [List.getElem?_eq_getElem (by omega), List.getElem?_eq_getElem (by rw [← HN.out]; omega)] at h1
     rw [Hc.out]
     exact Option.some.inj h1
    show _ = _
    rw [list_take_snoc pw k (by omega), unbig_snoc, ← Ht.out, hpk]
   have x20 : wr.cell? ⟨g3, 20, none⟩ = some (.int .u64 (t : Nat)) := HI.out.k3.cell 20 rfl
   have f20 := HI.out.k3.open 20
   obtain ⟨w6, Hw6⟩ : ∃ x, Hid (x = putC wr g3 20 [.int .u64 ((t * 256 + c.toNat : Nat) : Int)]) := ⟨_, rfl⟩
   have HI6 : Hid (DI w g2 g3 (Opp.v ⟨(kd : Nat), nodeZ, svcZ, chkZ, true, (unbig (pw.take (k + 1)) : Nat)⟩ (.slice none 0 0)) (oppZ.v (.slice none 0 0)) w6) := by rw [Hw6.out, HNx.out]; exact HI.out.put h3w h23 [.int .u64 ((t * 256 + c.toNat : Nat) : Int)] 20 rfl (Nat.le_of_ble_eq_true rfl)
   have hpc : ((t * 256 + c.toNat : Nat) : Int) = (t : Int) * 256 + (c.toNat : Int) := by omega
   rw [hpc] at Hw6
   clear e2 Ht Hc HNx HI hpc hq2
   go_upto_region 14 with fail
   change Code.wp _ _ _ _ (putC wr g3 20 [.int .u64 ((t : Int) * 256 + (c.toNat : Int))])
   rw [← Hw6.out]
   clear Hw6 x20 f20 hc2
   go_wp2
   go_roundw
   case rel => exact ⟨k + 1, by omega, by go_num, HI6⟩
   case measure => simp [intOf]; omega
  ·have hk8 : k = 8 := by omega
   subst hk8
   have HWn : Hid (t = unbig ((l.drop (p + 2)).take 8)) := by
    show _ = _
    rw [Ht.out, Hpw.out, List.take_take]
    rfl
   clear Ht Hpw hpl
   have HRA : Hid (raP (l.drop p) = rbP 6 true t (l.drop (p + 10))) := by show _ = _; rw [HRA0.out, HWn.out]
   clear HRA0 HWn
   obtain ⟨gm, Hgm⟩ : ∃ x, Hid (x = wr.heap.size) := ⟨_, rfl⟩
   go_upto_region 17 with fail
   change Code.wp _ _ _ _ (wr.alloc (.cells #[.int .i64 0, .int .i64 2, .int .i64 3, .int .i64 3, .int .i64 1, .int .i64 2, .int .i64 2] 107))
   obtain ⟨w7, Hw7⟩ : ∃ x, Hid (x = wr.alloc (.cells #[.int .i64 0, .int .i64 2, .int .i64 3, .int .i64 3, .int .i64 1, .int .i64 2, .int .i64 2] 107)) := ⟨_, rfl⟩
   have HI7 : Hid (DI w g2 g3 (Opp.v ⟨(kd : Nat), nodeZ, svcZ, chkZ, true, (t : Nat)⟩ (.slice none 0 0)) (oppZ.v (.slice none 0 0)) w7) := by rw [Hw7.out]; exact HI.out.below (below_new _ _)
   have HM : Hid (Blk w7 gm #[.int .i64 0, .int .i64 2, .int .i64 3, .int .i64 3, .int .i64 1, .int .i64 2, .int .i64 2] 107) := by rw [Hw7.out, Hgm.out]; exact Blk.new _ _ _
   rw [← Hw7.out, ← Hgm.out]
   clear Hgm Hw7 HI
   have x0 : w7.cell? ⟨g3, 0, none⟩ = some (.int .i64 (kd : Nat)) := HI7.out.k3.cell 0 rfl
   obtain rfl : kd = 6 := by rw [Hkd.out]; exact hkk
   clear Hkd
   have xm : w7.cell? ⟨gm, 6, none⟩ = some (.int .i64 2) := HM.out.cell 6 rfl
   have HC : Hid (Calls Tryz.prog 53 #[.slice (some ⟨xb, xo, none⟩) N cap, .int .i64 ((p : Int) + 2 + 8), .int .i64 2] w7 (CutA w7 l (p + 10) 2)) := by
    have := cut_calls xb xo cap l (p + 10) 2 w7 (by rw [← HN.out]; exact hl) (by rw [← HN.out]; exact hcap) hcm (by rw [← HN.out]; omega) (by omega) (HT.out.below HI7.out.bl)
    rw [← HN.out] at this
    exact this
   go_wp2_with fail
   refine HC.out.mono ?_
   clear HC xm
   rintro e w8 ⟨hb, ⟨hok, v, q, rfl, hq, hrest, hrow⟩ | ⟨hodd, rfl⟩⟩
   ·obtain ⟨t0, t1, ht0⟩ : ∃ t0 t1, (txsP 2 (l.drop (p + 10), false)).1 = [t0, t1] := list_two (txsP_len 2 _).1
    rw [ht0] at hrow
    obtain ⟨ao, vc, rfl, -⟩ := row_forms hrow
    have HROW : Hid (w8.ownsRow w7.heap.size 9 1 (.slice ao 2 vc) 2 [.string t0, .string t1]) := hrow
    obtain ⟨rb, ro, rfl, -⟩ := row_cells hrow (by simp)
    rw [← HN.out] at hq
    have HI8 : Hid (DI w g2 g3 (Opp.v ⟨(6 : Nat), nodeZ, svcZ, chkZ, true, (t : Nat)⟩ (.slice none 0 0)) (oppZ.v (.slice none 0 0)) w8) := HI7.out.below hb
    simp only [List.length_cons, List.length_nil, Nat.zero_add, Nat.reduceAdd]
    have HPO : Hid (raP (l.drop p) = some (⟨6, nodeZ, svcZ, ⟨t0, t1, ⟨#[]⟩, 0, ⟨#[]⟩, 0, 0⟩, true, (t : Nat)⟩, l.drop q)) := by
     show _ = _
     rw [HRA.out]
     simp only [rbP, manyP]
     simp [hok, ht0, hrest, tAt]
    clear hb hok hrest hrow HI7 HRA HM
    have x0 : w8.cell? ⟨g3, 0, none⟩ = some (.int .i64 ((6 : Nat) : Int)) := HI8.out.k3.cell 0 rfl
    obtain ⟨rb', ro', e', hcl⟩ := row_cells HROW.out (by simp)
    obtain ⟨rfl, rfl⟩ : rb = rb' ∧ ro = ro' := by simpa using e'
    have y0 : w8.cell? ⟨rb, ro, none⟩ = some (.string t0) := by simpa using hcl 0 (.string t0) rfl
    have x1 : w8.cell? ⟨g3, 12, none⟩ = some (.string ⟨#[]⟩) := HI8.out.k3.cell 12 rfl
    have f1 := HI8.out.k3.open 12
    obtain ⟨v0, Hv0⟩ : ∃ x, Hid (x = putC w8 g3 12 [.string t0]) := ⟨_, rfl⟩
    have HJ0 : Hid (DI w g2 g3 (Opp.v ⟨6, nodeZ, svcZ, ⟨t0, ⟨#[]⟩, ⟨#[]⟩, 0, ⟨#[]⟩, 0, 0⟩, true, (t : Nat)⟩ (.slice none 0 0)) (oppZ.v (.slice none 0 0)) v0) := by rw [Hv0.out]; exact HI8.out.put h3w h23 [.string t0] 12 rfl (Nat.le_of_ble_eq_true rfl)
    have HR0 : Hid (v0.ownsRow w7.heap.size 9 1 (.slice (some ⟨rb, ro, none⟩) 2 vc) 2 [.string t0, .string t1]) := by rw [Hv0.out]; exact row_putK HI8.out.k3 (by decide) HROW.out _ _
    clear HI8 HROW hcl e'
    go_upto_region 46 with fail
    change Code.wp _ _ _ _ (putC w8 g3 12 [.string t0])
    rw [← Hv0.out]
    clear Hv0 x1 f1 y0
    obtain ⟨rb', ro', e', hcl⟩ := row_cells HR0.out (by simp)
    obtain ⟨rfl, rfl⟩ : rb = rb' ∧ ro = ro' := by simpa using e'
    have y0 : v0.cell? ⟨rb, ro + 1, none⟩ = some (.string t1) := hcl 1 _ rfl
    have x1 : v0.cell? ⟨g3, 13, none⟩ = some (.string ⟨#[]⟩) := HJ0.out.k3.cell 13 rfl
    have f1 := HJ0.out.k3.open 13
    obtain ⟨v1, Hv1⟩ : ∃ x, Hid (x = putC v0 g3 13 [.string t1]) := ⟨_, rfl⟩
    have HJ1 : Hid (DI w g2 g3 (Opp.v ⟨6, nodeZ, svcZ, ⟨t0, t1, ⟨#[]⟩, 0, ⟨#[]⟩, 0, 0⟩, true, (t : Nat)⟩ (.slice none 0 0)) (oppZ.v (.slice none 0 0)) v1) := by rw [Hv1.out]; exact HJ0.out.put h3w h23 [.string t1] 13 rfl (Nat.le_of_ble_eq_true rfl)
    have HR1 : Hid (v1.ownsRow w7.heap.size 9 1 (.slice (some ⟨rb, ro, none⟩) 2 vc) 2 [.string t0, .string t1]) := by rw [Hv1.out]; exact row_putK HJ0.out.k3 (by decide) HR0.out _ _
    clear HJ0 HR0 hcl e'
    go_upto_region 47 with fail
    change Code.wp _ _ _ _ (putC v0 g3 13 [.string t1])
    rw [← Hv1.out]
    clear Hv1 x1 f1 y0
    have HIe := HJ1
    clear HJ1 HR1 x0
    obtain ⟨oo, Hoo⟩ : ∃ x : Opp, Hid (x = ⟨6, nodeZ, svcZ, ⟨t0, t1, ⟨#[]⟩, 0, ⟨#[]⟩, 0, 0⟩, true, (t : Nat)⟩) := ⟨_, rfl⟩
    have HFin : Hid (OpAtA w l p (.returned (.tuple #[.agg (oo.v (.slice none 0 0)), .int .i64 (q : Nat)])) (v1.setRow g2 (oo.v (.slice none 0 0)))) := by
     refine ⟨below_setRow HIe.out.bl h2w _, .inl ⟨oo, q, .slice none 0 0, by rw [HPO.out, Hoo.out] <;> rfl, by rw [← HN.out]; exact hq, rfl, ?_⟩⟩
     rw [Hoo.out]
     exact World.ownsRow_nil _ _ _ _
    have HK3 : Hid (Blk v1 g3 (oo.v (.slice none 0 0)) 54) := by rw [Hoo.out]; exact HIe.out.k3
    have HK2 : Hid (Blk v1 g2 (oppZ.v (.slice none 0 0)) 54) := HIe.out.k2
    have HLd : Hid ((loadVar 54 ⟨g2, 0, none⟩).run Tryz.prog (v1.setRow g2 (oo.v (.slice none 0 0))) = .ok (.agg (oo.v (.slice none 0 0))) (v1.setRow g2 (oo.v (.slice none 0 0)))) := load_op (blk_setRow HK2.out _) rfl
    have HONE : Hid ((oo.v (.slice none 0 0)).all (·.oneCell') = true) := v_oneN _ _ _ _
    clear HIe HPO Hoo
    iterate 2 go_step
    refine wp_get_op rfl HK3.out rfl rfl ?_
    iterate 5 go_step
    refine wp_put_op rfl HK2.out rfl rfl rfl rfl HONE.out ?_
    go_wp2
    exact ret_box45 (g := g2) (w := (v1.setRow g2 (oo.v (.slice none 0 0)))) rfl rfl rfl rfl HLd.out HFin.out
   ·have HNo : Hid (raP (l.drop p) = none) := by
     show _ = _
     rw [HRA.out]
     simp only [rbP, manyP]
     simp [hodd]
    have HI8 : Hid (DI w g2 g3 (Opp.v ⟨(6 : Nat), nodeZ, svcZ, chkZ, true, (t : Nat)⟩ (.slice none 0 0)) (oppZ.v (.slice none 0 0)) w8) := HI7.out.below hb
    clear hb hodd HI7 HRA HM
    have HNone : Hid (raP (l.drop p) = none) := HNo
    obtain ⟨CC, HCC⟩ : ∃ x : Array Value, Hid (x = Opp.v ⟨(6 : Nat), nodeZ, svcZ, chkZ, true, (t : Nat)⟩ (.slice none 0 0)) := ⟨_, rfl⟩
    have HK3 : Hid (Blk w8 g3 CC 54) := by rw [HCC.out]; exact HI8.out.k3
    have HK2 : Hid (Blk w8 g2 (oppZ.v (.slice none 0 0)) 54) := HI8.out.k2
    have HS : Hid (CC.size = 21) := by rw [HCC.out]; rfl
    have HONE : Hid (CC.all (·.oneCell') = true) := by rw [HCC.out]; exact v_oneN _ _ _ _
    have HLd : Hid ((loadVar 54 ⟨g2, 0, none⟩).run Tryz.prog (w8.setRow g2 CC) = .ok (.agg CC) (w8.setRow g2 CC)) := load_op (blk_setRow HK2.out _) HS.out
    have HFin : Hid (OpAtA w l p (.returned (.tuple #[.agg CC, .int .i64 (-1)])) (w8.setRow g2 CC)) := ⟨below_setRow HI8.out.bl h2w _, .inr ⟨HNone.out, _, HS.out, HONE.out, rfl⟩⟩
    clear HI8 HNone HCC
    go_upto_region 21 with fail
    iterate 2 go_step
    refine wp_get_op rfl HK3.out rfl HS.out ?_
    iterate 2 go_step
    refine wp_put_op rfl HK2.out rfl rfl rfl HS.out HONE.out ?_
    go_wp2
    exact ret_box45 (g := g2) (w := (w8.setRow g2 CC)) rfl rfl rfl rfl HLd.out HFin.out
end Go.Proofs.YtbhhjnbomhkdmaaGreatDoor
