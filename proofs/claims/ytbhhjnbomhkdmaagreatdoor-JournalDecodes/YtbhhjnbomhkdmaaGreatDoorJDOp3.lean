/- Layer 13 (journal): the document's opAt, of kind 3. -/
import Derived.Test.YtbhhjnbomhkdmaaGreatDoorJDOpL
namespace Go.Proofs.YtbhhjnbomhkdmaaGreatDoor
open Go.RowKit
set_option linter.unusedVariables false

set_option maxRecDepth 100000 in
set_option maxHeartbeats 8000000 in
theorem opAt_chkF (xb xo cap : Nat) (l : List UInt8) (p : Nat) (w : World) (hl : l.length ≤ 131072) (hcap : l.length < cap) (hcm : cap ≤ maxLen) (hp : p ≤ l.length) (h : BAt w (some ⟨xb, xo, none⟩) l) (hs : p + 2 ≤ l.length) (c0 c1 : UInt8) (hg0 : l[p]? = some c0) (hg1 : l[p + 1]? = some c1) (hcs : c1 ≠ 1) (hkk : c0.toNat = 3) :
  Calls Tryz.prog 34 #[.slice (some ⟨xb, xo, none⟩) l.length cap, .int .i64 (p : Nat)] w (OpAtA w l p) := by
 have HRA : Hid (raP (l.drop p) = rbP 3 false 0 (l.drop (p + 2))) := by have := raP_F hs hg0 hg1 hcs (by omega); rw [hkk] at this; exact this
 obtain ⟨wx, Hwx⟩ : ∃ x, Hid (x = w.alloc (.cells (oppZ.v (.slice none 0 0)) 54)) := ⟨_, rfl⟩
 have HB : Hid (Below w.heap.size w wx) := by rw [Hwx.out]; exact below_new w _
 have HX : Hid (Blk wx w.heap.size (oppZ.v (.slice none 0 0)) 54) := by rw [Hwx.out]; exact Blk.new _ _ _
 have HT : Hid (BAt w (some ⟨xb, xo, none⟩) l) := h
 obtain ⟨N, HN⟩ : ∃ N, Hid (N = l.length) := ⟨_, rfl⟩
 clear h
 rw [← HN.out] at hl hcap hp hs ⊢
 go_enter Tryz.func34, Tryz.ntmps34
 go_upto_region 1 with fail
 change Code.wp _ _ _ _ (w.alloc (.cells (oppZ.v (.slice none 0 0)) 54))
 rw [← Hwx.out]
 clear Hwx
 iterate 8 go_step
 refine wp_store_op (c' := Opp.v oppZ (.slice none 0 0)) rfl rfl rfl rfl rfl rfl (v_oneN _ _ _ _) ?_
 obtain ⟨w2, Hw2⟩ : ∃ x, Hid (x = wx.alloc (.cells (Opp.v oppZ (.slice none 0 0)) 54)) := ⟨_, rfl⟩
 have hsz1 : w.heap.size + 1 ≤ wx.heap.size := by have := HX.out.lt; omega
 have HI2 : Hid (DI w w.heap.size wx.heap.size (Opp.v oppZ (.slice none 0 0)) (oppZ.v (.slice none 0 0)) w2) := by
  rw [Hw2.out]
  exact ⟨HB.out.trans ((below_new _ _).mono HB.out.size), Blk.new _ _ _, HX.out.alloc _⟩
 rw [← Hw2.out]
 obtain ⟨g3, Hg3⟩ : ∃ x, Hid (x = wx.heap.size) := ⟨_, rfl⟩
 rw [← Hg3.out] at HI2 hsz1 ⊢
 obtain ⟨g2, Hg2⟩ : ∃ x, Hid (x = w.heap.size) := ⟨_, rfl⟩
 have h3w : w.heap.size ≤ g3 := by omega
 have h23 : g2 ≠ g3 := by rw [Hg2.out]; omega
 have h2w : w.heap.size ≤ g2 := by rw [Hg2.out]; exact Nat.le_refl _
 rw [← Hg2.out] at HI2 ⊢
 clear Hw2 Hg3 HX hsz1 HB Hg2
 obtain ⟨b0, o0, e0, hc0⟩ := (HT.out.below (HI2.out.bl)).at p (by rw [← HN.out]; omega)
 obtain ⟨rfl, rfl⟩ : xb = b0 ∧ xo = o0 := by simpa using e0
 rw [show l[p]'(by rw [← HN.out]; omega) = c0 from Option.some.inj ((List.getElem?_eq_getElem (by rw [← HN.out]; omega)).symm.trans hg0)] at hc0
 have hcl0 := byte_le c0
 have HT2 : Hid (BAt w2 (some ⟨xb, xo, none⟩) l) := HT.out.below HI2.out.bl
 have x0 : w2.cell? ⟨g3, 0, none⟩ = some (.int .i64 0) := HI2.out.k3.cell 0 rfl
 have f0 := HI2.out.k3.open 0
 obtain ⟨kd, Hkd⟩ : ∃ x, Hid (x = c0.toNat) := ⟨_, rfl⟩
 rw [← Hkd.out] at hc0 hcl0
 obtain ⟨w4, Hw4⟩ : ∃ x, Hid (x = putC w2 g3 0 [.int .i64 (kd : Nat)]) := ⟨_, rfl⟩
 have HI4 : Hid (DI w g2 g3 (Opp.v ⟨(kd : Nat), nodeZ, svcZ, chkZ, false, 0⟩ (.slice none 0 0)) (oppZ.v (.slice none 0 0)) w4) := by rw [Hw4.out]; exact HI2.out.put h3w h23 [.int .i64 (kd : Nat)] 0 rfl (Nat.le_of_ble_eq_true rfl)
 clear e0 HI2 HT2
 go_upto_region 5 with fail
 change Code.wp _ _ _ _ (putC w2 g3 0 [.int .i64 (kd : Nat)])
 rw [← Hw4.out]
 clear Hw4 x0 f0 hc0
 obtain ⟨b1, o1, e1, hc1⟩ := (HT.out.below (HI4.out.bl)).at (p + 1) (by rw [← HN.out]; omega)
 obtain ⟨rfl, rfl⟩ : xb = b1 ∧ xo = o1 := by simpa using e1
 rw [show l[p + 1]'(by rw [← HN.out]; omega) = c1 from Option.some.inj ((List.getElem?_eq_getElem (by rw [← HN.out]; omega)).symm.trans hg1)] at hc1
 have hcq : ((c1.toNat : Int) == 1) = false := by
  simp
  intro e
  exact hcs (UInt8.toNat_inj.1 (by simpa using (by omega : c1.toNat = 1)))
 have hcl1 := byte_le c1
 have x19 : w4.cell? ⟨g3, 19, none⟩ = some (.bool false) := HI4.out.k3.cell 19 rfl
 have f19 := HI4.out.k3.open 19
 obtain ⟨w5, Hw5⟩ : ∃ x, Hid (x = putC w4 g3 19 [.bool false]) := ⟨_, rfl⟩
 have HI5 : Hid (DI w g2 g3 (Opp.v ⟨(kd : Nat), nodeZ, svcZ, chkZ, false, 0⟩ (.slice none 0 0)) (oppZ.v (.slice none 0 0)) w5) := by rw [Hw5.out]; exact HI4.out.put h3w h23 [.bool false] 19 rfl (Nat.le_of_ble_eq_true rfl)
 clear e1 HI4
 go_upto_region 6 with fail
 change Code.wp _ _ _ _ (putC w4 g3 19 [.bool false])
 rw [← Hw5.out]
 clear Hw5 x19 f19 hc1 hcq hcl1
 have x19 : w5.cell? ⟨g3, 19, none⟩ = some (.bool false) := HI5.out.k3.cell 19 rfl
 obtain ⟨gm, Hgm⟩ : ∃ x, Hid (x = w5.heap.size) := ⟨_, rfl⟩
 go_upto_region 17 with fail
 change Code.wp _ _ _ _ (w5.alloc (.cells #[.int .i64 0, .int .i64 2, .int .i64 3, .int .i64 3, .int .i64 1, .int .i64 2, .int .i64 2] 107))
 obtain ⟨w7, Hw7⟩ : ∃ x, Hid (x = w5.alloc (.cells #[.int .i64 0, .int .i64 2, .int .i64 3, .int .i64 3, .int .i64 1, .int .i64 2, .int .i64 2] 107)) := ⟨_, rfl⟩
 have HI7 : Hid (DI w g2 g3 (Opp.v ⟨(kd : Nat), nodeZ, svcZ, chkZ, false, 0⟩ (.slice none 0 0)) (oppZ.v (.slice none 0 0)) w7) := by rw [Hw7.out]; exact HI5.out.below (below_new _ _)
 have HM : Hid (Blk w7 gm #[.int .i64 0, .int .i64 2, .int .i64 3, .int .i64 3, .int .i64 1, .int .i64 2, .int .i64 2] 107) := by rw [Hw7.out, Hgm.out]; exact Blk.new _ _ _
 rw [← Hw7.out, ← Hgm.out]
 clear Hgm Hw7 HI5
 have x0 : w7.cell? ⟨g3, 0, none⟩ = some (.int .i64 (kd : Nat)) := HI7.out.k3.cell 0 rfl
 obtain rfl : kd = 3 := by rw [Hkd.out]; exact hkk
 clear Hkd
 have xm : w7.cell? ⟨gm, 3, none⟩ = some (.int .i64 3) := HM.out.cell 3 rfl
 have HC : Hid (Calls Tryz.prog 53 #[.slice (some ⟨xb, xo, none⟩) N cap, .int .i64 ((p : Int) + 2), .int .i64 3] w7 (CutA w7 l (p + 2) 3)) := by
  have := cut_calls xb xo cap l (p + 2) 3 w7 (by rw [← HN.out]; exact hl) (by rw [← HN.out]; exact hcap) hcm (by rw [← HN.out]; omega) (by omega) (HT.out.below HI7.out.bl)
  rw [← HN.out] at this
  exact this
 go_wp2_with fail
 refine HC.out.mono ?_
 clear HC xm
 rintro e w8 ⟨hb, ⟨hok, v, q, rfl, hq, hrest, hrow⟩ | ⟨hodd, rfl⟩⟩
 ·obtain ⟨t0, t1, t2, ht0⟩ : ∃ t0 t1 t2, (txsP 3 (l.drop (p + 2), false)).1 = [t0, t1, t2] := list_three (txsP_len 3 _).1
  rw [ht0] at hrow
  obtain ⟨ao, vc, rfl, -⟩ := row_forms hrow
  have HROW : Hid (w8.ownsRow w7.heap.size 9 1 (.slice ao 3 vc) 3 [.string t0, .string t1, .string t2]) := hrow
  obtain ⟨rb, ro, rfl, -⟩ := row_cells hrow (by simp)
  rw [← HN.out] at hq
  have HI8 : Hid (DI w g2 g3 (Opp.v ⟨(3 : Nat), nodeZ, svcZ, chkZ, false, 0⟩ (.slice none 0 0)) (oppZ.v (.slice none 0 0)) w8) := HI7.out.below hb
  simp only [List.length_cons, List.length_nil, Nat.zero_add, Nat.reduceAdd]
  have HT3 : T3 (l.drop (p + 2)) (l.drop q) t0 t1 t2 := ⟨hok, hrest, ht0⟩
  clear hok hrest ht0 hrow hb HI7 HM
  have x0 : w8.cell? ⟨g3, 0, none⟩ = some (.int .i64 ((3 : Nat) : Int)) := HI8.out.k3.cell 0 rfl
  by_cases hqe : N ≤ q
  ·have HNo : Hid (raP (l.drop p) = none) := by
    show _ = _
    rw [HRA.out]
    exact rb3_short HT3.ok HT3.rest (by rw [List.length_drop, ← HN.out]; omega)
   have hge : (N : Int) ≤ (q : Int) := by omega
   clear HT3 HRA HROW
   have HNone : Hid (raP (l.drop p) = none) := HNo
   obtain ⟨CC, HCC⟩ : ∃ x : Array Value, Hid (x = Opp.v ⟨(3 : Nat), nodeZ, svcZ, chkZ, false, 0⟩ (.slice none 0 0)) := ⟨_, rfl⟩
   have HK3 : Hid (Blk w8 g3 CC 54) := by rw [HCC.out]; exact HI8.out.k3
   have HK2 : Hid (Blk w8 g2 (oppZ.v (.slice none 0 0)) 54) := HI8.out.k2
   have HS : Hid (CC.size = 21) := by rw [HCC.out]; rfl
   have HONE : Hid (CC.all (·.oneCell') = true) := by rw [HCC.out]; exact v_oneN _ _ _ _
   have HLd : Hid ((loadVar 54 ⟨g2, 0, none⟩).run Tryz.prog (w8.setRow g2 CC) = .ok (.agg CC) (w8.setRow g2 CC)) := load_op (blk_setRow HK2.out _) HS.out
   have HFin : Hid (OpAtA w l p (.returned (.tuple #[.agg CC, .int .i64 (-1)])) (w8.setRow g2 CC)) := ⟨below_setRow HI8.out.bl h2w _, .inr ⟨HNone.out, _, HS.out, HONE.out, rfl⟩⟩
   clear HI8 HNone HCC
   go_upto_region 33 with fail
   iterate 2 go_step
   refine wp_get_op rfl HK3.out rfl HS.out ?_
   iterate 2 go_step
   refine wp_put_op rfl HK2.out rfl rfl rfl HS.out HONE.out ?_
   go_wp2
   exact ret_box45 (g := g2) (w := (w8.setRow g2 CC)) rfl rfl rfl rfl HLd.out HFin.out
  ·have hlt : (q : Int) < (N : Int) := by omega
   obtain ⟨bb, ob, eb, hcb⟩ := (HT.out.below (HI8.out.bl)).at (q) (by rw [← HN.out]; omega)
   obtain ⟨rfl, rfl⟩ : xb = bb ∧ xo = ob := by simpa using eb
   have hqb : q < l.length := by rw [← HN.out]; omega
   obtain ⟨cb, Hcb⟩ : ∃ x : UInt8, Hid (x = l[q]'hqb) := ⟨_, rfl⟩
   rw [← Hcb.out] at hcb
   have hclb := byte_le cb
   have HGB : Hid (l[q]? = some cb) := by rw [Hcb.out]; exact List.getElem?_eq_getElem hqb
   clear Hcb eb hqb
   obtain ⟨nb, Hnb⟩ : ∃ x, Hid (x = cb.toNat) := ⟨_, rfl⟩
   rw [← Hnb.out] at hcb hclb
   have hnb : nb ≤ 255 := by omega
   have HD1 : Hid ((l.drop q).drop 1 = l.drop (q + 1)) := by show _ = _; rw [List.drop_drop]
   have HC2 : Hid (Calls Tryz.prog 53 #[.slice (some ⟨xb, xo, none⟩) N cap, .int .i64 ((q : Int) + 1), .int .i64 1] w8 (CutA w8 l (q + 1) 1)) := by
    have := cut_calls xb xo cap l (q + 1) 1 w8 (by rw [← HN.out]; exact hl) (by rw [← HN.out]; exact hcap) hcm (by rw [← HN.out]; omega) (by omega) (HT.out.below HI8.out.bl)
    rw [← HN.out] at this
    exact this
   go_wp2_with fail
   refine HC2.out.mono ?_
   clear HC2
   rintro e w9 ⟨hb9, ⟨hok9, v9, q9, rfl, hq9, hrest9, hrow9⟩ | ⟨hodd9, rfl⟩⟩
   ·obtain ⟨u0, hu0⟩ : ∃ u0, (txsP 1 (l.drop (q + 1), false)).1 = [u0] := list_one (txsP_len 1 _).1
    rw [hu0] at hrow9
    obtain ⟨ao9, vc9, rfl, -⟩ := row_forms hrow9
    obtain ⟨rb9, ro9, rfl, hcl9⟩ := row_cells hrow9 (by simp)
    have yu : w9.cell? ⟨rb9, ro9, none⟩ = some (.string u0) := by simpa using hcl9 0 (.string u0) rfl
    clear hcl9
    rw [← HN.out] at hq9
    have HI9 : Hid (DI w g2 g3 (Opp.v ⟨(3 : Nat), nodeZ, svcZ, chkZ, false, 0⟩ (.slice none 0 0)) (oppZ.v (.slice none 0 0)) w9) := HI8.out.below hb9
    have HRW9 : Hid (w9.ownsRow w7.heap.size 9 1 (.slice (some ⟨rb, ro, none⟩) 3 vc) 3 [.string t0, .string t1, .string t2]) := row_below HROW.out hb9
    clear hcb
    obtain ⟨bb, ob, eb, hcb⟩ := (HT.out.below (HI9.out.bl)).at (q) (by rw [← HN.out]; omega)
    obtain ⟨rfl, rfl⟩ : xb = bb ∧ xo = ob := by simpa using eb
    rw [show l[q]'(by rw [← HN.out]; omega) = cb from Option.some.inj ((List.getElem?_eq_getElem (by rw [← HN.out]; omega)).symm.trans HGB.out), ← Hnb.out] at hcb
    clear eb
    simp only [List.length_cons, List.length_nil, Nat.zero_add]
    have HPO : Hid (raP (l.drop p) = some (⟨3, nodeZ, svcZ, ⟨t0, t1, t2, (nb : Nat), u0, 0, 0⟩, false, 0⟩, l.drop q9)) := by
     show _ = _
     rw [HRA.out]
     have e1 := rb3_ok (c := false) (want := 0) (s' := l.drop q9) HT3.ok HT3.ts HT3.rest (by rw [List.length_drop, ← HN.out]; omega) (by rw [HD1.out]; exact hok9) (by rw [HD1.out]; exact hu0) (by rw [HD1.out]; exact hrest9)
     rw [show (l.drop q).getD 0 0 = cb from getD_drop (k := 0) (by simpa using HGB.out), ← Hnb.out] at e1
     exact e1
    clear HT3 HRA hok9 hrest9 hu0 hb9 HD1
    have x0 : w9.cell? ⟨g3, 0, none⟩ = some (.int .i64 ((3 : Nat) : Int)) := HI9.out.k3.cell 0 rfl
    obtain ⟨rb', ro', e', hcl⟩ := row_cells HRW9.out (by simp)
    obtain ⟨rfl, rfl⟩ : rb = rb' ∧ ro = ro' := by simpa using e'
    have y0 : w9.cell? ⟨rb, ro, none⟩ = some (.string t0) := by simpa using hcl 0 (.string t0) rfl
    have y1 : w9.cell? ⟨rb, ro + 1, none⟩ = some (.string t1) := hcl 1 _ rfl
    have y2 : w9.cell? ⟨rb, ro + 2, none⟩ = some (.string t2) := hcl 2 _ rfl
    clear hcl e'
    obtain ⟨HY0, HY1, HY2, HYU, HYB⟩ : Hid (w9.cell? ⟨rb, ro, none⟩ = some (.string t0)) ∧ Hid (w9.cell? ⟨rb, ro + 1, none⟩ = some (.string t1)) ∧ Hid (w9.cell? ⟨rb, ro + 2, none⟩ = some (.string t2)) ∧ Hid (w9.cell? ⟨rb9, ro9, none⟩ = some (.string u0)) ∧ Hid (w9.cell? ⟨xb, xo + q, none⟩ = some (.int .u8 (nb : Int))) := ⟨y0, y1, y2, yu, hcb⟩
    clear HI8 HROW y0 y1 y2 yu hcb
    go_upto_region 37 with fail
    refine wp_region_inv 19 (fun j v W => match j with
     | 0 => v = .slice (some ⟨rb, ro, none⟩) 3 vc
     | 1 => v = .pointer (some ⟨rb, ro, none⟩)
     | 2 => v = .string t0
     | 3 => v = .slice (some ⟨rb, ro, none⟩) 3 vc
     | 4 => v = .pointer (some ⟨rb, ro + 1, none⟩)
     | 5 => v = .string t1
     | 6 => v = .slice (some ⟨rb, ro, none⟩) 3 vc
     | 7 => v = .pointer (some ⟨rb, ro + 2, none⟩)
     | 8 => v = .string t2
     | 9 => v = .slice (some ⟨xb, xo, none⟩) N cap
     | 10 => v = .int .i64 (q : Nat)
     | 11 => v = .pointer (some ⟨xb, xo + q, none⟩)
     | 12 => v = .int .u8 (nb : Int)
     | 13 => v = .int .i64 (nb : Int)
     | 14 => v = .slice (some ⟨rb9, ro9, none⟩) 1 vc9
     | 15 => v = .pointer (some ⟨rb9, ro9, none⟩)
     | 16 => v = .string u0
     | 17 => v = .agg #[.string t0, .string t1, .string t2, .int .i64 (nb : Int), .string u0, .int .u64 0, .int .u64 0]
     | 18 => v = .pointer (some ⟨g3, 12, none⟩)
     | _ => False) (by kernel_rfl) (by kernel_rfl) (by kernel_rfl) [some 157, some 158, some 159, some 160, some 161, some 162, some 163, some 164, some 165, some 166, some 167, some 168, some 169, some 170, some 171, some 172, some 173, some 174, some 175] (by kernel_rfl) ?mono ?hop ?tail
    case mono =>
     intro j v W W' h hb
     match j, h with
     | 0, h => exact h
     | 1, h => exact h
     | 2, h => exact h
     | 3, h => exact h
     | 4, h => exact h
     | 5, h => exact h
     | 6, h => exact h
     | 7, h => exact h
     | 8, h => exact h
     | 9, h => exact h
     | 10, h => exact h
     | 11, h => exact h
     | 12, h => exact h
     | 13, h => exact h
     | 14, h => exact h
     | 15, h => exact h
     | 16, h => exact h
     | 17, h => exact h
     | 18, h => exact h
     | k + 19, h => exact h.elim
    case hop =>
     intro j o hi ho a W hB hs hd
     match j, hi, ho, hd with
     | 0, _, ho, hd =>
      obtain rfl := Option.some.inj ho
      have e1 : a.eval (.tmp 10) = .slice (some ⟨rb, ro, none⟩) 3 vc := (hs 10 (by kernel_rfl)).trans rfl
      exact wp_valF (v := .slice (some ⟨rb, ro, none⟩) 3 vc) (by unfold execOp; dsimp only; simp only [e1]; rfl) ⟨_, rfl, rfl, Below.refl _ _⟩
     | 1, _, ho, hd =>
      obtain rfl := Option.some.inj ho
      have e0 : a.eval (.tmp 157) = .slice (some ⟨rb, ro, none⟩) 3 vc := hd 0 157 (by kernel_rfl) (by kernel_rfl)
      have c0 : a.eval (.const (.int .i64 0)) = .int .i64 0 := rfl
      exact wp_valF (v := .pointer (some ⟨rb, ro, none⟩)) (by unfold execOp; dsimp only; simp only [e0, c0]; go_simp) ⟨_, rfl, rfl, Below.refl _ _⟩
     | 2, _, ho, hd =>
      obtain rfl := Option.some.inj ho
      have e1 : a.eval (.tmp 158) = .pointer (some ⟨rb, ro, none⟩) := hd 1 158 (by kernel_rfl) (by kernel_rfl)
      have hc := (below_cell hB HY0.out)
      exact wp_valF (v := .string t0) (by unfold execOp; dsimp only; simp only [e1]; simp [hc, go_sem]) ⟨_, rfl, rfl, Below.refl _ _⟩
     | 3, _, ho, hd =>
      obtain rfl := Option.some.inj ho
      have e1 : a.eval (.tmp 10) = .slice (some ⟨rb, ro, none⟩) 3 vc := (hs 10 (by kernel_rfl)).trans rfl
      exact wp_valF (v := .slice (some ⟨rb, ro, none⟩) 3 vc) (by unfold execOp; dsimp only; simp only [e1]; rfl) ⟨_, rfl, rfl, Below.refl _ _⟩
     | 4, _, ho, hd =>
      obtain rfl := Option.some.inj ho
      have e0 : a.eval (.tmp 160) = .slice (some ⟨rb, ro, none⟩) 3 vc := hd 3 160 (by kernel_rfl) (by kernel_rfl)
      have c0 : a.eval (.const (.int .i64 1)) = .int .i64 1 := rfl
      exact wp_valF (v := .pointer (some ⟨rb, ro + 1, none⟩)) (by unfold execOp; dsimp only; simp only [e0, c0]; go_simp) ⟨_, rfl, rfl, Below.refl _ _⟩
     | 5, _, ho, hd =>
      obtain rfl := Option.some.inj ho
      have e1 : a.eval (.tmp 161) = .pointer (some ⟨rb, ro + 1, none⟩) := hd 4 161 (by kernel_rfl) (by kernel_rfl)
      have hc := (below_cell hB HY1.out)
      exact wp_valF (v := .string t1) (by unfold execOp; dsimp only; simp only [e1]; simp [hc, go_sem]) ⟨_, rfl, rfl, Below.refl _ _⟩
     | 6, _, ho, hd =>
      obtain rfl := Option.some.inj ho
      have e1 : a.eval (.tmp 10) = .slice (some ⟨rb, ro, none⟩) 3 vc := (hs 10 (by kernel_rfl)).trans rfl
      exact wp_valF (v := .slice (some ⟨rb, ro, none⟩) 3 vc) (by unfold execOp; dsimp only; simp only [e1]; rfl) ⟨_, rfl, rfl, Below.refl _ _⟩
     | 7, _, ho, hd =>
      obtain rfl := Option.some.inj ho
      have e0 : a.eval (.tmp 163) = .slice (some ⟨rb, ro, none⟩) 3 vc := hd 6 163 (by kernel_rfl) (by kernel_rfl)
      have c0 : a.eval (.const (.int .i64 2)) = .int .i64 2 := rfl
      exact wp_valF (v := .pointer (some ⟨rb, ro + 2, none⟩)) (by unfold execOp; dsimp only; simp only [e0, c0]; go_simp) ⟨_, rfl, rfl, Below.refl _ _⟩
     | 8, _, ho, hd =>
      obtain rfl := Option.some.inj ho
      have e1 : a.eval (.tmp 164) = .pointer (some ⟨rb, ro + 2, none⟩) := hd 7 164 (by kernel_rfl) (by kernel_rfl)
      have hc := (below_cell hB HY2.out)
      exact wp_valF (v := .string t2) (by unfold execOp; dsimp only; simp only [e1]; simp [hc, go_sem]) ⟨_, rfl, rfl, Below.refl _ _⟩
     | 9, _, ho, hd =>
      obtain rfl := Option.some.inj ho
      have e1 : a.eval (.tmp 0) = .slice (some ⟨xb, xo, none⟩) N cap := (hs 0 (by kernel_rfl)).trans rfl
      exact wp_valF (v := .slice (some ⟨xb, xo, none⟩) N cap) (by unfold execOp; dsimp only; simp only [e1]; rfl) ⟨_, rfl, rfl, Below.refl _ _⟩
     | 10, _, ho, hd =>
      obtain rfl := Option.some.inj ho
      have e1 : a.eval (.tmp 1) = .int .i64 (q : Nat) := (hs 1 (by kernel_rfl)).trans rfl
      exact wp_valF (v := .int .i64 (q : Nat)) (by unfold execOp; dsimp only; simp only [e1]; rfl) ⟨_, rfl, rfl, Below.refl _ _⟩
     | 11, _, ho, hd =>
      obtain rfl := Option.some.inj ho
      have e0 : a.eval (.tmp 166) = .slice (some ⟨xb, xo, none⟩) N cap := hd 9 166 (by kernel_rfl) (by kernel_rfl)
      have e1 : a.eval (.tmp 167) = .int .i64 (q : Nat) := hd 10 167 (by kernel_rfl) (by kernel_rfl)
      exact wp_valF (v := .pointer (some ⟨xb, xo + q, none⟩)) (by unfold execOp; dsimp only; simp only [e0, e1]; go_simp) ⟨_, rfl, rfl, Below.refl _ _⟩
     | 12, _, ho, hd =>
      obtain rfl := Option.some.inj ho
      have e1 : a.eval (.tmp 168) = .pointer (some ⟨xb, xo + q, none⟩) := hd 11 168 (by kernel_rfl) (by kernel_rfl)
      have hc := (below_cell hB HYB.out)
      exact wp_valF (v := .int .u8 (nb : Int)) (by unfold execOp; dsimp only; simp only [e1]; simp [hc, go_sem]) ⟨_, rfl, rfl, Below.refl _ _⟩
     | 13, _, ho, hd =>
      obtain rfl := Option.some.inj ho
      have e0 : a.eval (.tmp 169) = .int .u8 (nb : Int) := hd 12 169 (by kernel_rfl) (by kernel_rfl)
      exact wp_valF (v := .int .i64 (nb : Int)) (by unfold execOp; dsimp only; simp only [e0]; go_simp; exact wrap_i _ (by omega) (by omega)) ⟨_, rfl, rfl, Below.refl _ _⟩
     | 14, _, ho, hd =>
      obtain rfl := Option.some.inj ho
      have e1 : a.eval (.tmp 13) = .slice (some ⟨rb9, ro9, none⟩) 1 vc9 := (hs 13 (by kernel_rfl)).trans rfl
      exact wp_valF (v := .slice (some ⟨rb9, ro9, none⟩) 1 vc9) (by unfold execOp; dsimp only; simp only [e1]; rfl) ⟨_, rfl, rfl, Below.refl _ _⟩
     | 15, _, ho, hd =>
      obtain rfl := Option.some.inj ho
      have e0 : a.eval (.tmp 171) = .slice (some ⟨rb9, ro9, none⟩) 1 vc9 := hd 14 171 (by kernel_rfl) (by kernel_rfl)
      have c0 : a.eval (.const (.int .i64 0)) = .int .i64 0 := rfl
      exact wp_valF (v := .pointer (some ⟨rb9, ro9, none⟩)) (by unfold execOp; dsimp only; simp only [e0, c0]; go_simp) ⟨_, rfl, rfl, Below.refl _ _⟩
     | 16, _, ho, hd =>
      obtain rfl := Option.some.inj ho
      have e1 : a.eval (.tmp 172) = .pointer (some ⟨rb9, ro9, none⟩) := hd 15 172 (by kernel_rfl) (by kernel_rfl)
      have hc := (below_cell hB HYU.out)
      exact wp_valF (v := .string u0) (by unfold execOp; dsimp only; simp only [e1]; simp [hc, go_sem]) ⟨_, rfl, rfl, Below.refl _ _⟩
     | 17, _, ho, hd =>
      obtain rfl := Option.some.inj ho
      have e0 : a.eval (.tmp 159) = .string t0 := hd 2 159 (by kernel_rfl) (by kernel_rfl)
      have e1 : a.eval (.tmp 162) = .string t1 := hd 5 162 (by kernel_rfl) (by kernel_rfl)
      have e2 : a.eval (.tmp 165) = .string t2 := hd 8 165 (by kernel_rfl) (by kernel_rfl)
      have e3 : a.eval (.tmp 170) = .int .i64 (nb : Int) := hd 13 170 (by kernel_rfl) (by kernel_rfl)
      have e4 : a.eval (.tmp 173) = .string u0 := hd 16 173 (by kernel_rfl) (by kernel_rfl)
      exact wp_valF (v := .agg #[.string t0, .string t1, .string t2, .int .i64 (nb : Int), .string u0, .int .u64 0, .int .u64 0]) (by unfold execOp; dsimp only; simp only [List.map_toArray, List.map_cons, List.map_nil, e0, e1, e2, e3, e4]; go_simp) ⟨_, rfl, rfl, Below.refl _ _⟩
     | 18, _, ho, hd =>
      obtain rfl := Option.some.inj ho
      have e0 : a.eval (.tmp 6) = .pointer (some ⟨g3, 0, none⟩) := (hs 6 (by kernel_rfl)).trans rfl
      exact wp_valF (v := .pointer (some ⟨g3, 12, none⟩)) (by unfold execOp; dsimp only; simp only [e0]; go_simp) ⟨_, rfl, rfl, Below.refl _ _⟩
     | k + 19, hi, _, _ => exact absurd hi (by omega)
    case tail =>
     intro vs W hB hR
     have r0 : vs 0 = .slice (some ⟨rb, ro, none⟩) 3 vc := hR 0 (by decide)
     have r1 : vs 1 = .pointer (some ⟨rb, ro, none⟩) := hR 1 (by decide)
     have r2 : vs 2 = .string t0 := hR 2 (by decide)
     have r3 : vs 3 = .slice (some ⟨rb, ro, none⟩) 3 vc := hR 3 (by decide)
     have r4 : vs 4 = .pointer (some ⟨rb, ro + 1, none⟩) := hR 4 (by decide)
     have r5 : vs 5 = .string t1 := hR 5 (by decide)
     have r6 : vs 6 = .slice (some ⟨rb, ro, none⟩) 3 vc := hR 6 (by decide)
     have r7 : vs 7 = .pointer (some ⟨rb, ro + 2, none⟩) := hR 7 (by decide)
     have r8 : vs 8 = .string t2 := hR 8 (by decide)
     have r9 : vs 9 = .slice (some ⟨xb, xo, none⟩) N cap := hR 9 (by decide)
     have r10 : vs 10 = .int .i64 (q : Nat) := hR 10 (by decide)
     have r11 : vs 11 = .pointer (some ⟨xb, xo + q, none⟩) := hR 11 (by decide)
     have r12 : vs 12 = .int .u8 (nb : Int) := hR 12 (by decide)
     have r13 : vs 13 = .int .i64 (nb : Int) := hR 13 (by decide)
     have r14 : vs 14 = .slice (some ⟨rb9, ro9, none⟩) 1 vc9 := hR 14 (by decide)
     have r15 : vs 15 = .pointer (some ⟨rb9, ro9, none⟩) := hR 15 (by decide)
     have r16 : vs 16 = .string u0 := hR 16 (by decide)
     have r17 : vs 17 = .agg #[.string t0, .string t1, .string t2, .int .i64 (nb : Int), .string u0, .int .u64 0, .int .u64 0] := hR 17 (by decide)
     have r18 : vs 18 = .pointer (some ⟨g3, 12, none⟩) := hR 18 (by decide)
     clear hR
     have HIW : Hid (DI w g2 g3 (Opp.v ⟨(3 : Nat), nodeZ, svcZ, chkZ, false, 0⟩ (.slice none 0 0)) (oppZ.v (.slice none 0 0)) W) := HI9.out.below hB
     have HW3 : Hid (Blk W g3 (Opp.v ⟨(3 : Nat), nodeZ, svcZ, chkZ, false, 0⟩ (.slice none 0 0)) 54) := HIW.out.k3
     obtain ⟨we, Hwe⟩ : ∃ x, Hid (x = putC W g3 12 [.string t0, .string t1, .string t2, .int .i64 (nb : Nat), .string u0, .int .u64 0, .int .u64 0]) := ⟨_, rfl⟩
     have HIe : Hid (DI w g2 g3 (Opp.v ⟨3, nodeZ, svcZ, ⟨t0, t1, t2, (nb : Nat), u0, 0, 0⟩, false, 0⟩ (.slice none 0 0)) (oppZ.v (.slice none 0 0)) we) := by rw [Hwe.out]; exact HIW.out.put h3w h23 [.string t0, .string t1, .string t2, .int .i64 (nb : Nat), .string u0, .int .u64 0, .int .u64 0] 12 rfl (Nat.le_of_ble_eq_true rfl)
     clear HI9 HRW9 hB x0 HIW HY0 HY1 HY2 HYU HYB
     simp only [putL, put_lit, List.setIfInBounds_toArray, List.set_cons_succ, List.set_cons_zero, List.drop_succ_cons, List.drop_zero]
     rw [r0, r1, r2, r3, r4, r5, r6, r7, r8, r9, r10, r11, r12, r13, r14, r15, r16, r17, r18]
     clear r0 r1 r2 r3 r4 r5 r6 r7 r8 r9 r10 r11 r12 r13 r14 r15 r16 r17 r18
     go_step
     refine wp_put_part (g := g3) (o := 12) (l := [.string t0, .string t1, .string t2, .int .i64 (nb : Nat), .string u0, .int .u64 0, .int .u64 0]) rfl HW3.out rfl rfl (Nat.le_of_ble_eq_true rfl) size_chk (by simp [Value.oneCell']) ?_
     rw [← Hwe.out]
     clear Hwe HW3
     go_upto_region 47 with fail
     obtain ⟨oo, Hoo⟩ : ∃ x : Opp, Hid (x = ⟨3, nodeZ, svcZ, ⟨t0, t1, t2, (nb : Nat), u0, 0, 0⟩, false, 0⟩) := ⟨_, rfl⟩
     have HFin : Hid (OpAtA w l p (.returned (.tuple #[.agg (oo.v (.slice none 0 0)), .int .i64 (q9 : Nat)])) (we.setRow g2 (oo.v (.slice none 0 0)))) := by
      refine ⟨below_setRow HIe.out.bl h2w _, .inl ⟨oo, q9, .slice none 0 0, by rw [HPO.out, Hoo.out] <;> rfl, by rw [← HN.out]; exact hq9, rfl, ?_⟩⟩
      rw [Hoo.out]
      exact World.ownsRow_nil _ _ _ _
     have HK3 : Hid (Blk we g3 (oo.v (.slice none 0 0)) 54) := by rw [Hoo.out]; exact HIe.out.k3
     have HK2 : Hid (Blk we g2 (oppZ.v (.slice none 0 0)) 54) := HIe.out.k2
     have HLd : Hid ((loadVar 54 ⟨g2, 0, none⟩).run Tryz.prog (we.setRow g2 (oo.v (.slice none 0 0))) = .ok (.agg (oo.v (.slice none 0 0))) (we.setRow g2 (oo.v (.slice none 0 0)))) := load_op (blk_setRow HK2.out _) rfl
     have HONE : Hid ((oo.v (.slice none 0 0)).all (·.oneCell') = true) := v_oneN _ _ _ _
     clear HIe HPO Hoo
     iterate 2 go_step
     refine wp_get_op rfl HK3.out rfl rfl ?_
     iterate 5 go_step
     refine wp_put_op rfl HK2.out rfl rfl rfl rfl HONE.out ?_
     go_wp2
     exact ret_box45 (g := g2) (w := (we.setRow g2 (oo.v (.slice none 0 0)))) rfl rfl rfl rfl HLd.out HFin.out
   ·have HNo : Hid (raP (l.drop p) = none) := by
     show _ = _
     rw [HRA.out]
     exact rb3_odd HT3.ok HT3.rest (by rw [List.length_drop, ← HN.out]; omega) (by rw [HD1.out]; exact hodd9)
    have HI9 : Hid (DI w g2 g3 (Opp.v ⟨(3 : Nat), nodeZ, svcZ, chkZ, false, 0⟩ (.slice none 0 0)) (oppZ.v (.slice none 0 0)) w9) := HI8.out.below hb9
    clear HT3 HRA hodd9 hb9 HROW HI8 HD1 hcb
    have HNone : Hid (raP (l.drop p) = none) := HNo
    obtain ⟨CC, HCC⟩ : ∃ x : Array Value, Hid (x = Opp.v ⟨(3 : Nat), nodeZ, svcZ, chkZ, false, 0⟩ (.slice none 0 0)) := ⟨_, rfl⟩
    have HK3 : Hid (Blk w9 g3 CC 54) := by rw [HCC.out]; exact HI9.out.k3
    have HK2 : Hid (Blk w9 g2 (oppZ.v (.slice none 0 0)) 54) := HI9.out.k2
    have HS : Hid (CC.size = 21) := by rw [HCC.out]; rfl
    have HONE : Hid (CC.all (·.oneCell') = true) := by rw [HCC.out]; exact v_oneN _ _ _ _
    have HLd : Hid ((loadVar 54 ⟨g2, 0, none⟩).run Tryz.prog (w9.setRow g2 CC) = .ok (.agg CC) (w9.setRow g2 CC)) := load_op (blk_setRow HK2.out _) HS.out
    have HFin : Hid (OpAtA w l p (.returned (.tuple #[.agg CC, .int .i64 (-1)])) (w9.setRow g2 CC)) := ⟨below_setRow HI9.out.bl h2w _, .inr ⟨HNone.out, _, HS.out, HONE.out, rfl⟩⟩
    clear HI9 HNone HCC
    go_upto_region 36 with fail
    iterate 2 go_step
    refine wp_get_op rfl HK3.out rfl HS.out ?_
    iterate 2 go_step
    refine wp_put_op rfl HK2.out rfl rfl rfl HS.out HONE.out ?_
    go_wp2
    exact ret_box45 (g := g2) (w := (w9.setRow g2 CC)) rfl rfl rfl rfl HLd.out HFin.out
 ·have HNo : Hid (raP (l.drop p) = none) := by
   show _ = _
   rw [HRA.out]
   simp only [rbP, manyP]
   simp [hodd]
  have HI8 : Hid (DI w g2 g3 (Opp.v ⟨(3 : Nat), nodeZ, svcZ, chkZ, false, 0⟩ (.slice none 0 0)) (oppZ.v (.slice none 0 0)) w8) := HI7.out.below hb
  clear hb hodd HI7 HRA HM
  have HNone : Hid (raP (l.drop p) = none) := HNo
  obtain ⟨CC, HCC⟩ : ∃ x : Array Value, Hid (x = Opp.v ⟨(3 : Nat), nodeZ, svcZ, chkZ, false, 0⟩ (.slice none 0 0)) := ⟨_, rfl⟩
  have HK3 : Hid (Blk w8 g3 CC 54) := by rw [HCC.out]; exact HI8.out.k3
  have HK2 : Hid (Blk w8 g2 (oppZ.v (.slice none 0 0)) 54) := HI8.out.k2
  have HS : Hid (CC.size = 21) := by rw [HCC.out]; rfl
  have HONE : Hid (CC.all (·.oneCell') = true) := by rw [HCC.out]; exact v_oneN _ _ _ _
  have HLd : Hid ((loadVar 54 ⟨g2, 0, none⟩).run Tryz.prog (w8.setRow g2 CC) = .ok (.agg CC) (w8.setRow g2 CC)) := load_op (blk_setRow HK2.out _) HS.out
  have HFin : Hid (OpAtA w l p (.returned (.tuple #[.agg CC, .int .i64 (-1)])) (w8.setRow g2 CC)) := ⟨below_setRow HI8.out.bl h2w _, .inr ⟨HNone.out, _, HS.out, HONE.out, rfl⟩⟩
  clear HI8 HNone HCC
  go_upto_region 21 with fail
  iterate 2 go_step
  refine wp_get_op rfl HK3.out rfl HS.out ?_
  iterate 2 go_step
  refine wp_put_op rfl HK2.out rfl rfl rfl HS.out HONE.out ?_
  go_wp2
  exact ret_box45 (g := g2) (w := (w8.setRow g2 CC)) rfl rfl rfl rfl HLd.out HFin.out

set_option maxRecDepth 100000 in
set_option maxHeartbeats 8000000 in
theorem opAt_chkT (xb xo cap : Nat) (l : List UInt8) (p : Nat) (w : World) (hl : l.length ≤ 131072) (hcap : l.length < cap) (hcm : cap ≤ maxLen) (hp : p ≤ l.length) (h : BAt w (some ⟨xb, xo, none⟩) l) (hs : p + 2 ≤ l.length) (c0 c1 : UInt8) (hg0 : l[p]? = some c0) (hg1 : l[p + 1]? = some c1) (hcs : c1 = 1) (hs2 : p + 10 ≤ l.length) (hkk : c0.toNat = 3) :
  Calls Tryz.prog 34 #[.slice (some ⟨xb, xo, none⟩) l.length cap, .int .i64 (p : Nat)] w (OpAtA w l p) := by
 have HRA0 : Hid (raP (l.drop p) = rbP 3 true (unbig ((l.drop (p + 2)).take 8)) (l.drop (p + 10))) := by have := raP_T hs2 hg0 hg1 hcs (by omega); rw [hkk] at this; exact this
 obtain ⟨wx, Hwx⟩ : ∃ x, Hid (x = w.alloc (.cells (oppZ.v (.slice none 0 0)) 54)) := ⟨_, rfl⟩
 have HB : Hid (Below w.heap.size w wx) := by rw [Hwx.out]; exact below_new w _
 have HX : Hid (Blk wx w.heap.size (oppZ.v (.slice none 0 0)) 54) := by rw [Hwx.out]; exact Blk.new _ _ _
 have HT : Hid (BAt w (some ⟨xb, xo, none⟩) l) := h
 obtain ⟨N, HN⟩ : ∃ N, Hid (N = l.length) := ⟨_, rfl⟩
 clear h
 rw [← HN.out] at hl hcap hp hs hs2 ⊢
 go_enter Tryz.func34, Tryz.ntmps34
 go_upto_region 1 with fail
 change Code.wp _ _ _ _ (w.alloc (.cells (oppZ.v (.slice none 0 0)) 54))
 rw [← Hwx.out]
 clear Hwx
 iterate 8 go_step
 refine wp_store_op (c' := Opp.v oppZ (.slice none 0 0)) rfl rfl rfl rfl rfl rfl (v_oneN _ _ _ _) ?_
 obtain ⟨w2, Hw2⟩ : ∃ x, Hid (x = wx.alloc (.cells (Opp.v oppZ (.slice none 0 0)) 54)) := ⟨_, rfl⟩
 have hsz1 : w.heap.size + 1 ≤ wx.heap.size := by have := HX.out.lt; omega
 have HI2 : Hid (DI w w.heap.size wx.heap.size (Opp.v oppZ (.slice none 0 0)) (oppZ.v (.slice none 0 0)) w2) := by
  rw [Hw2.out]
  exact ⟨HB.out.trans ((below_new _ _).mono HB.out.size), Blk.new _ _ _, HX.out.alloc _⟩
 rw [← Hw2.out]
 obtain ⟨g3, Hg3⟩ : ∃ x, Hid (x = wx.heap.size) := ⟨_, rfl⟩
 rw [← Hg3.out] at HI2 hsz1 ⊢
 obtain ⟨g2, Hg2⟩ : ∃ x, Hid (x = w.heap.size) := ⟨_, rfl⟩
 have h3w : w.heap.size ≤ g3 := by omega
 have h23 : g2 ≠ g3 := by rw [Hg2.out]; omega
 have h2w : w.heap.size ≤ g2 := by rw [Hg2.out]; exact Nat.le_refl _
 rw [← Hg2.out] at HI2 ⊢
 clear Hw2 Hg3 HX hsz1 HB Hg2
 obtain ⟨b0, o0, e0, hc0⟩ := (HT.out.below (HI2.out.bl)).at p (by rw [← HN.out]; omega)
 obtain ⟨rfl, rfl⟩ : xb = b0 ∧ xo = o0 := by simpa using e0
 rw [show l[p]'(by rw [← HN.out]; omega) = c0 from Option.some.inj ((List.getElem?_eq_getElem (by rw [← HN.out]; omega)).symm.trans hg0)] at hc0
 have hcl0 := byte_le c0
 have HT2 : Hid (BAt w2 (some ⟨xb, xo, none⟩) l) := HT.out.below HI2.out.bl
 have x0 : w2.cell? ⟨g3, 0, none⟩ = some (.int .i64 0) := HI2.out.k3.cell 0 rfl
 have f0 := HI2.out.k3.open 0
 obtain ⟨kd, Hkd⟩ : ∃ x, Hid (x = c0.toNat) := ⟨_, rfl⟩
 rw [← Hkd.out] at hc0 hcl0
 obtain ⟨w4, Hw4⟩ : ∃ x, Hid (x = putC w2 g3 0 [.int .i64 (kd : Nat)]) := ⟨_, rfl⟩
 have HI4 : Hid (DI w g2 g3 (Opp.v ⟨(kd : Nat), nodeZ, svcZ, chkZ, false, 0⟩ (.slice none 0 0)) (oppZ.v (.slice none 0 0)) w4) := by rw [Hw4.out]; exact HI2.out.put h3w h23 [.int .i64 (kd : Nat)] 0 rfl (Nat.le_of_ble_eq_true rfl)
 clear e0 HI2 HT2
 go_upto_region 5 with fail
 change Code.wp _ _ _ _ (putC w2 g3 0 [.int .i64 (kd : Nat)])
 rw [← Hw4.out]
 clear Hw4 x0 f0 hc0
 obtain ⟨b1, o1, e1, hc1⟩ := (HT.out.below (HI4.out.bl)).at (p + 1) (by rw [← HN.out]; omega)
 obtain ⟨rfl, rfl⟩ : xb = b1 ∧ xo = o1 := by simpa using e1
 rw [show l[p + 1]'(by rw [← HN.out]; omega) = c1 from Option.some.inj ((List.getElem?_eq_getElem (by rw [← HN.out]; omega)).symm.trans hg1)] at hc1
 have hcq : ((c1.toNat : Int) == 1) = true := by
  rw [hcs]; rfl
 have hcl1 := byte_le c1
 have x19 : w4.cell? ⟨g3, 19, none⟩ = some (.bool false) := HI4.out.k3.cell 19 rfl
 have f19 := HI4.out.k3.open 19
 obtain ⟨w5, Hw5⟩ : ∃ x, Hid (x = putC w4 g3 19 [.bool true]) := ⟨_, rfl⟩
 have HI5 : Hid (DI w g2 g3 (Opp.v ⟨(kd : Nat), nodeZ, svcZ, chkZ, true, 0⟩ (.slice none 0 0)) (oppZ.v (.slice none 0 0)) w5) := by rw [Hw5.out]; exact HI4.out.put h3w h23 [.bool true] 19 rfl (Nat.le_of_ble_eq_true rfl)
 clear e1 HI4
 go_upto_region 6 with fail
 change Code.wp _ _ _ _ (putC w4 g3 19 [.bool true])
 rw [← Hw5.out]
 clear Hw5 x19 f19 hc1 hcq hcl1
 have x19 : w5.cell? ⟨g3, 19, none⟩ = some (.bool true) := HI5.out.k3.cell 19 rfl
 obtain ⟨pw, Hpw⟩ : ∃ x, Hid (x = (l.drop (p + 2)).take 8) := ⟨_, rfl⟩
 have hpl : pw.length = 8 := by rw [Hpw.out, List.length_take, List.length_drop, ← HN.out]; omega
 go_wp2
 go_loopw [8, 51] (fun _ i wr => ∃ k : Nat, k ≤ 8 ∧ i = .int .i64 k ∧ Hid (DI w g2 g3 (Opp.v ⟨(kd : Nat), nodeZ, svcZ, chkZ, true, (unbig (pw.take k) : Nat)⟩ (.slice none 0 0)) (oppZ.v (.slice none 0 0)) wr)) (fun _ i _ => 8 - (intOf i).toNat)
 case atStart => exact ⟨0, Nat.zero_le _, rfl, HI5⟩
 case round =>
  obtain ⟨k, hk, rfl, HI⟩ := hrel
  clear HI5 x19
  obtain ⟨t, Ht⟩ : ∃ t, Hid (t = unbig (pw.take k)) := ⟨_, rfl⟩
  rw [← Ht.out] at HI
  by_cases hlt : k < 8
  ·have ht : t < 72057594037927936 := by
    have h1 := unbig_lt (pw.take k).length (pw.take k) rfl
    rw [← Ht.out] at h1
    have h2 : (pw.take k).length ≤ 7 := by rw [List.length_take]; omega
    exact Nat.lt_of_lt_of_le h1 (Nat.le_trans (Nat.pow_le_pow_right (by decide) h2) (by decide))
   obtain ⟨b2, o2, e2, hc2⟩ := (HT.out.below (HI.out.bl)).at (p + 2 + k) (by rw [← HN.out]; omega)
   obtain ⟨rfl, rfl⟩ : xb = b2 ∧ xo = o2 := by simpa using e2
   have hq2 : p + 2 + k < l.length := by rw [← HN.out]; omega
   obtain ⟨c, Hc⟩ : ∃ c : UInt8, Hid (c = l[p + 2 + k]'hq2) := ⟨_, rfl⟩
   rw [← Hc.out, ← Nat.add_assoc xo] at hc2
   have hcl := byte_le c
   have HNx : Hid (unbig (pw.take (k + 1)) = t * 256 + c.toNat) := by
    have hpk : pw[k]'(by omega) = c := by
     have h1 : pw[k]? = l[p + 2 + k]? := by rw [Hpw.out, List.getElem?_take_of_lt hlt, List.getElem?_drop]
     rw [List.getElem?_eq_getElem (by omega), List.getElem?_eq_getElem (by rw [← HN.out]; omega)] at h1
     rw [Hc.out]
     exact Option.some.inj h1
    show _ = _
    rw [list_take_snoc pw k (by omega), unbig_snoc, ← Ht.out, hpk]
   have x20 : wr.cell? ⟨g3, 20, none⟩ = some (.int .u64 (t : Nat)) := HI.out.k3.cell 20 rfl
   have f20 := HI.out.k3.open 20
   obtain ⟨w6, Hw6⟩ : ∃ x, Hid (x = putC wr g3 20 [.int .u64 ((t * 256 + c.toNat : Nat) : Int)]) := ⟨_, rfl⟩
   have HI6 : Hid (DI w g2 g3 (Opp.v ⟨(kd : Nat), nodeZ, svcZ, chkZ, true, (unbig (pw.take (k + 1)) : Nat)⟩ (.slice none 0 0)) (oppZ.v (.slice none 0 0)) w6) := by rw [Hw6.out, HNx.out]; exact HI.out.put h3w h23 [.int .u64 ((t * 256 + c.toNat : Nat) : Int)] 20 rfl (Nat.le_of_ble_eq_true rfl)
   have hpc : ((t * 256 + c.toNat : Nat) : Int) = (t : Int) * 256 + (c.toNat : Int) := by omega
   rw [hpc] at Hw6
   clear e2 Ht Hc HNx HI hpc hq2
   go_upto_region 14 with fail
   change Code.wp _ _ _ _ (putC wr g3 20 [.int .u64 ((t : Int) * 256 + (c.toNat : Int))])
   rw [← Hw6.out]
   clear Hw6 x20 f20 hc2
   go_wp2
   go_roundw
   case rel => exact ⟨k + 1, by omega, by go_num, HI6⟩
   case measure => simp [intOf]; omega
  ·have hk8 : k = 8 := by omega
   subst hk8
   have HWn : Hid (t = unbig ((l.drop (p + 2)).take 8)) := by
    show _ = _
    rw [Ht.out, Hpw.out, List.take_take]
    rfl
   clear Ht Hpw hpl
   have HRA : Hid (raP (l.drop p) = rbP 3 true t (l.drop (p + 10))) := by show _ = _; rw [HRA0.out, HWn.out]
   clear HRA0 HWn
   obtain ⟨gm, Hgm⟩ : ∃ x, Hid (x = wr.heap.size) := ⟨_, rfl⟩
   go_upto_region 17 with fail
   change Code.wp _ _ _ _ (wr.alloc (.cells #[.int .i64 0, .int .i64 2, .int .i64 3, .int .i64 3, .int .i64 1, .int .i64 2, .int .i64 2] 107))
   obtain ⟨w7, Hw7⟩ : ∃ x, Hid (x = wr.alloc (.cells #[.int .i64 0, .int .i64 2, .int .i64 3, .int .i64 3, .int .i64 1, .int .i64 2, .int .i64 2] 107)) := ⟨_, rfl⟩
   have HI7 : Hid (DI w g2 g3 (Opp.v ⟨(kd : Nat), nodeZ, svcZ, chkZ, true, (t : Nat)⟩ (.slice none 0 0)) (oppZ.v (.slice none 0 0)) w7) := by rw [Hw7.out]; exact HI.out.below (below_new _ _)
   have HM : Hid (Blk w7 gm #[.int .i64 0, .int .i64 2, .int .i64 3, .int .i64 3, .int .i64 1, .int .i64 2, .int .i64 2] 107) := by rw [Hw7.out, Hgm.out]; exact Blk.new _ _ _
   rw [← Hw7.out, ← Hgm.out]
   clear Hgm Hw7 HI
   have x0 : w7.cell? ⟨g3, 0, none⟩ = some (.int .i64 (kd : Nat)) := HI7.out.k3.cell 0 rfl
   obtain rfl : kd = 3 := by rw [Hkd.out]; exact hkk
   clear Hkd
   have xm : w7.cell? ⟨gm, 3, none⟩ = some (.int .i64 3) := HM.out.cell 3 rfl
   have HC : Hid (Calls Tryz.prog 53 #[.slice (some ⟨xb, xo, none⟩) N cap, .int .i64 ((p : Int) + 2 + 8), .int .i64 3] w7 (CutA w7 l (p + 10) 3)) := by
    have := cut_calls xb xo cap l (p + 10) 3 w7 (by rw [← HN.out]; exact hl) (by rw [← HN.out]; exact hcap) hcm (by rw [← HN.out]; omega) (by omega) (HT.out.below HI7.out.bl)
    rw [← HN.out] at this
    exact this
   go_wp2_with fail
   refine HC.out.mono ?_
   clear HC xm
   rintro e w8 ⟨hb, ⟨hok, v, q, rfl, hq, hrest, hrow⟩ | ⟨hodd, rfl⟩⟩
   ·obtain ⟨t0, t1, t2, ht0⟩ : ∃ t0 t1 t2, (txsP 3 (l.drop (p + 10), false)).1 = [t0, t1, t2] := list_three (txsP_len 3 _).1
    rw [ht0] at hrow
    obtain ⟨ao, vc, rfl, -⟩ := row_forms hrow
    have HROW : Hid (w8.ownsRow w7.heap.size 9 1 (.slice ao 3 vc) 3 [.string t0, .string t1, .string t2]) := hrow
    obtain ⟨rb, ro, rfl, -⟩ := row_cells hrow (by simp)
    rw [← HN.out] at hq
    have HI8 : Hid (DI w g2 g3 (Opp.v ⟨(3 : Nat), nodeZ, svcZ, chkZ, true, (t : Nat)⟩ (.slice none 0 0)) (oppZ.v (.slice none 0 0)) w8) := HI7.out.below hb
    simp only [List.length_cons, List.length_nil, Nat.zero_add, Nat.reduceAdd]
    have HT3 : T3 (l.drop (p + 10)) (l.drop q) t0 t1 t2 := ⟨hok, hrest, ht0⟩
    clear hok hrest ht0 hrow hb HI7 HM
    have x0 : w8.cell? ⟨g3, 0, none⟩ = some (.int .i64 ((3 : Nat) : Int)) := HI8.out.k3.cell 0 rfl
    by_cases hqe : N ≤ q
    ·have HNo : Hid (raP (l.drop p) = none) := by
      show _ = _
      rw [HRA.out]
      exact rb3_short HT3.ok HT3.rest (by rw [List.length_drop, ← HN.out]; omega)
     have hge : (N : Int) ≤ (q : Int) := by omega
     clear HT3 HRA HROW
     have HNone : Hid (raP (l.drop p) = none) := HNo
     obtain ⟨CC, HCC⟩ : ∃ x : Array Value, Hid (x = Opp.v ⟨(3 : Nat), nodeZ, svcZ, chkZ, true, (t : Nat)⟩ (.slice none 0 0)) := ⟨_, rfl⟩
     have HK3 : Hid (Blk w8 g3 CC 54) := by rw [HCC.out]; exact HI8.out.k3
     have HK2 : Hid (Blk w8 g2 (oppZ.v (.slice none 0 0)) 54) := HI8.out.k2
     have HS : Hid (CC.size = 21) := by rw [HCC.out]; rfl
     have HONE : Hid (CC.all (·.oneCell') = true) := by rw [HCC.out]; exact v_oneN _ _ _ _
     have HLd : Hid ((loadVar 54 ⟨g2, 0, none⟩).run Tryz.prog (w8.setRow g2 CC) = .ok (.agg CC) (w8.setRow g2 CC)) := load_op (blk_setRow HK2.out _) HS.out
     have HFin : Hid (OpAtA w l p (.returned (.tuple #[.agg CC, .int .i64 (-1)])) (w8.setRow g2 CC)) := ⟨below_setRow HI8.out.bl h2w _, .inr ⟨HNone.out, _, HS.out, HONE.out, rfl⟩⟩
     clear HI8 HNone HCC
     go_upto_region 33 with fail
     iterate 2 go_step
     refine wp_get_op rfl HK3.out rfl HS.out ?_
     iterate 2 go_step
     refine wp_put_op rfl HK2.out rfl rfl rfl HS.out HONE.out ?_
     go_wp2
     exact ret_box45 (g := g2) (w := (w8.setRow g2 CC)) rfl rfl rfl rfl HLd.out HFin.out
    ·have hlt : (q : Int) < (N : Int) := by omega
     obtain ⟨bb, ob, eb, hcb⟩ := (HT.out.below (HI8.out.bl)).at (q) (by rw [← HN.out]; omega)
     obtain ⟨rfl, rfl⟩ : xb = bb ∧ xo = ob := by simpa using eb
     have hqb : q < l.length := by rw [← HN.out]; omega
     obtain ⟨cb, Hcb⟩ : ∃ x : UInt8, Hid (x = l[q]'hqb) := ⟨_, rfl⟩
     rw [← Hcb.out] at hcb
     have hclb := byte_le cb
     have HGB : Hid (l[q]? = some cb) := by rw [Hcb.out]; exact List.getElem?_eq_getElem hqb
     clear Hcb eb hqb
     obtain ⟨nb, Hnb⟩ : ∃ x, Hid (x = cb.toNat) := ⟨_, rfl⟩
     rw [← Hnb.out] at hcb hclb
     have hnb : nb ≤ 255 := by omega
     have HD1 : Hid ((l.drop q).drop 1 = l.drop (q + 1)) := by show _ = _; rw [List.drop_drop]
     have HC2 : Hid (Calls Tryz.prog 53 #[.slice (some ⟨xb, xo, none⟩) N cap, .int .i64 ((q : Int) + 1), .int .i64 1] w8 (CutA w8 l (q + 1) 1)) := by
      have := cut_calls xb xo cap l (q + 1) 1 w8 (by rw [← HN.out]; exact hl) (by rw [← HN.out]; exact hcap) hcm (by rw [← HN.out]; omega) (by omega) (HT.out.below HI8.out.bl)
      rw [← HN.out] at this
      exact this
     go_wp2_with fail
     refine HC2.out.mono ?_
     clear HC2
     rintro e w9 ⟨hb9, ⟨hok9, v9, q9, rfl, hq9, hrest9, hrow9⟩ | ⟨hodd9, rfl⟩⟩
     ·obtain ⟨u0, hu0⟩ : ∃ u0, (txsP 1 (l.drop (q + 1), false)).1 = [u0] := list_one (txsP_len 1 _).1
      rw [hu0] at hrow9
      obtain ⟨ao9, vc9, rfl, -⟩ := row_forms hrow9
      obtain ⟨rb9, ro9, rfl, hcl9⟩ := row_cells hrow9 (by simp)
      have yu : w9.cell? ⟨rb9, ro9, none⟩ = some (.string u0) := by simpa using hcl9 0 (.string u0) rfl
      clear hcl9
      rw [← HN.out] at hq9
      have HI9 : Hid (DI w g2 g3 (Opp.v ⟨(3 : Nat), nodeZ, svcZ, chkZ, true, (t : Nat)⟩ (.slice none 0 0)) (oppZ.v (.slice none 0 0)) w9) := HI8.out.below hb9
      have HRW9 : Hid (w9.ownsRow w7.heap.size 9 1 (.slice (some ⟨rb, ro, none⟩) 3 vc) 3 [.string t0, .string t1, .string t2]) := row_below HROW.out hb9
      clear hcb
      obtain ⟨bb, ob, eb, hcb⟩ := (HT.out.below (HI9.out.bl)).at (q) (by rw [← HN.out]; omega)
      obtain ⟨rfl, rfl⟩ : xb = bb ∧ xo = ob := by simpa using eb
      rw [show l[q]'(by rw [← HN.out]; omega) = cb from Option.some.inj ((List.getElem?_eq_getElem (by rw [← HN.out]; omega)).symm.trans HGB.out), ← Hnb.out] at hcb
      clear eb
      simp only [List.length_cons, List.length_nil, Nat.zero_add]
      have HPO : Hid (raP (l.drop p) = some (⟨3, nodeZ, svcZ, ⟨t0, t1, t2, (nb : Nat), u0, 0, 0⟩, true, (t : Nat)⟩, l.drop q9)) := by
       show _ = _
       rw [HRA.out]
       have e1 := rb3_ok (c := true) (want := t) (s' := l.drop q9) HT3.ok HT3.ts HT3.rest (by rw [List.length_drop, ← HN.out]; omega) (by rw [HD1.out]; exact hok9) (by rw [HD1.out]; exact hu0) (by rw [HD1.out]; exact hrest9)
       rw [show (l.drop q).getD 0 0 = cb from getD_drop (k := 0) (by simpa using HGB.out), ← Hnb.out] at e1
       exact e1
      clear HT3 HRA hok9 hrest9 hu0 hb9 HD1
      have x0 : w9.cell? ⟨g3, 0, none⟩ = some (.int .i64 ((3 : Nat) : Int)) := HI9.out.k3.cell 0 rfl
      obtain ⟨rb', ro', e', hcl⟩ := row_cells HRW9.out (by simp)
      obtain ⟨rfl, rfl⟩ : rb = rb' ∧ ro = ro' := by simpa using e'
      have y0 : w9.cell? ⟨rb, ro, none⟩ = some (.string t0) := by simpa using hcl 0 (.string t0) rfl
      have y1 : w9.cell? ⟨rb, ro + 1, none⟩ = some (.string t1) := hcl 1 _ rfl
      have y2 : w9.cell? ⟨rb, ro + 2, none⟩ = some (.string t2) := hcl 2 _ rfl
      clear hcl e'
      obtain ⟨HY0, HY1, HY2, HYU, HYB⟩ : Hid (w9.cell? ⟨rb, ro, none⟩ = some (.string t0)) ∧ Hid (w9.cell? ⟨rb, ro + 1, none⟩ = some (.string t1)) ∧ Hid (w9.cell? ⟨rb, ro + 2, none⟩ = some (.string t2)) ∧ Hid (w9.cell? ⟨rb9, ro9, none⟩ = some (.string u0)) ∧ Hid (w9.cell? ⟨xb, xo + q, none⟩ = some (.int .u8 (nb : Int))) := ⟨y0, y1, y2, yu, hcb⟩
      clear HI8 HROW y0 y1 y2 yu hcb
      go_upto_region 37 with fail
      refine wp_region_inv 19 (fun j v W => match j with
       | 0 => v = .slice (some ⟨rb, ro, none⟩) 3 vc
       | 1 => v = .pointer (some ⟨rb, ro, none⟩)
       | 2 => v = .string t0
       | 3 => v = .slice (some ⟨rb, ro, none⟩) 3 vc
       | 4 => v = .pointer (some ⟨rb, ro + 1, none⟩)
       | 5 => v = .string t1
       | 6 => v = .slice (some ⟨rb, ro, none⟩) 3 vc
       | 7 => v = .pointer (some ⟨rb, ro + 2, none⟩)
       | 8 => v = .string t2
       | 9 => v = .slice (some ⟨xb, xo, none⟩) N cap
       | 10 => v = .int .i64 (q : Nat)
       | 11 => v = .pointer (some ⟨xb, xo + q, none⟩)
       | 12 => v = .int .u8 (nb : Int)
       | 13 => v = .int .i64 (nb : Int)
       | 14 => v = .slice (some ⟨rb9, ro9, none⟩) 1 vc9
       | 15 => v = .pointer (some ⟨rb9, ro9, none⟩)
       | 16 => v = .string u0
       | 17 => v = .agg #[.string t0, .string t1, .string t2, .int .i64 (nb : Int), .string u0, .int .u64 0, .int .u64 0]
       | 18 => v = .pointer (some ⟨g3, 12, none⟩)
       | _ => False) (by kernel_rfl) (by kernel_rfl) (by kernel_rfl) [some 157, some 158, some 159, some 160, some 161, some 162, some 163, some 164, some 165, some 166, some 167, some 168, some 169, some 170, some 171, some 172, some 173, some 174, some 175] (by kernel_rfl) ?mono ?hop ?tail
      case mono =>
       intro j v W W' h hb
       match j, h with
       | 0, h => exact h
       | 1, h => exact h
       | 2, h => exact h
       | 3, h => exact h
       | 4, h => exact h
       | 5, h => exact h
       | 6, h => exact h
       | 7, h => exact h
       | 8, h => exact h
       | 9, h => exact h
       | 10, h => exact h
       | 11, h => exact h
       | 12, h => exact h
       | 13, h => exact h
       | 14, h => exact h
       | 15, h => exact h
       | 16, h => exact h
       | 17, h => exact h
       | 18, h => exact h
       | k + 19, h => exact h.elim
      case hop =>
       intro j o hi ho a W hB hs hd
       match j, hi, ho, hd with
       | 0, _, ho, hd =>
        obtain rfl := Option.some.inj ho
        have e1 : a.eval (.tmp 10) = .slice (some ⟨rb, ro, none⟩) 3 vc := (hs 10 (by kernel_rfl)).trans rfl
        exact wp_valF (v := .slice (some ⟨rb, ro, none⟩) 3 vc) (by unfold execOp; dsimp only; simp only [e1]; rfl) ⟨_, rfl, rfl, Below.refl _ _⟩
       | 1, _, ho, hd =>
        obtain rfl := Option.some.inj ho
        have e0 : a.eval (.tmp 157) = .slice (some ⟨rb, ro, none⟩) 3 vc := hd 0 157 (by kernel_rfl) (by kernel_rfl)
        have c0 : a.eval (.const (.int .i64 0)) = .int .i64 0 := rfl
        exact wp_valF (v := .pointer (some ⟨rb, ro, none⟩)) (by unfold execOp; dsimp only; simp only [e0, c0]; go_simp) ⟨_, rfl, rfl, Below.refl _ _⟩
       | 2, _, ho, hd =>
        obtain rfl := Option.some.inj ho
        have e1 : a.eval (.tmp 158) = .pointer (some ⟨rb, ro, none⟩) := hd 1 158 (by kernel_rfl) (by kernel_rfl)
        have hc := (below_cell hB HY0.out)
        exact wp_valF (v := .string t0) (by unfold execOp; dsimp only; simp only [e1]; simp [hc, go_sem]) ⟨_, rfl, rfl, Below.refl _ _⟩
       | 3, _, ho, hd =>
        obtain rfl := Option.some.inj ho
        have e1 : a.eval (.tmp 10) = .slice (some ⟨rb, ro, none⟩) 3 vc := (hs 10 (by kernel_rfl)).trans rfl
        exact wp_valF (v := .slice (some ⟨rb, ro, none⟩) 3 vc) (by unfold execOp; dsimp only; simp only [e1]; rfl) ⟨_, rfl, rfl, Below.refl _ _⟩
       | 4, _, ho, hd =>
        obtain rfl := Option.some.inj ho
        have e0 : a.eval (.tmp 160) = .slice (some ⟨rb, ro, none⟩) 3 vc := hd 3 160 (by kernel_rfl) (by kernel_rfl)
        have c0 : a.eval (.const (.int .i64 1)) = .int .i64 1 := rfl
        exact wp_valF (v := .pointer (some ⟨rb, ro + 1, none⟩)) (by unfold execOp; dsimp only; simp only [e0, c0]; go_simp) ⟨_, rfl, rfl, Below.refl _ _⟩
       | 5, _, ho, hd =>
        obtain rfl := Option.some.inj ho
        have e1 : a.eval (.tmp 161) = .pointer (some ⟨rb, ro + 1, none⟩) := hd 4 161 (by kernel_rfl) (by kernel_rfl)
        have hc := (below_cell hB HY1.out)
        exact wp_valF (v := .string t1) (by unfold execOp; dsimp only; simp only [e1]; simp [hc, go_sem]) ⟨_, rfl, rfl, Below.refl _ _⟩
       | 6, _, ho, hd =>
        obtain rfl := Option.some.inj ho
        have e1 : a.eval (.tmp 10) = .slice (some ⟨rb, ro, none⟩) 3 vc := (hs 10 (by kernel_rfl)).trans rfl
        exact wp_valF (v := .slice (some ⟨rb, ro, none⟩) 3 vc) (by unfold execOp; dsimp only; simp only [e1]; rfl) ⟨_, rfl, rfl, Below.refl _ _⟩
       | 7, _, ho, hd =>
        obtain rfl := Option.some.inj ho
        have e0 : a.eval (.tmp 163) = .slice (some ⟨rb, ro, none⟩) 3 vc := hd 6 163 (by kernel_rfl) (by kernel_rfl)
        have c0 : a.eval (.const (.int .i64 2)) = .int .i64 2 := rfl
        exact wp_valF (v := .pointer (some ⟨rb, ro + 2, none⟩)) (by unfold execOp; dsimp only; simp only [e0, c0]; go_simp) ⟨_, rfl, rfl, Below.refl _ _⟩
       | 8, _, ho, hd =>
        obtain rfl := Option.some.inj ho
        have e1 : a.eval (.tmp 164) = .pointer (some ⟨rb, ro + 2, none⟩) := hd 7 164 (by kernel_rfl) (by kernel_rfl)
        have hc := (below_cell hB HY2.out)
        exact wp_valF (v := .string t2) (by unfold execOp; dsimp only; simp only [e1]; simp [hc, go_sem]) ⟨_, rfl, rfl, Below.refl _ _⟩
       | 9, _, ho, hd =>
        obtain rfl := Option.some.inj ho
        have e1 : a.eval (.tmp 0) = .slice (some ⟨xb, xo, none⟩) N cap := (hs 0 (by kernel_rfl)).trans rfl
        exact wp_valF (v := .slice (some ⟨xb, xo, none⟩) N cap) (by unfold execOp; dsimp only; simp only [e1]; rfl) ⟨_, rfl, rfl, Below.refl _ _⟩
       | 10, _, ho, hd =>
        obtain rfl := Option.some.inj ho
        have e1 : a.eval (.tmp 1) = .int .i64 (q : Nat) := (hs 1 (by kernel_rfl)).trans rfl
        exact wp_valF (v := .int .i64 (q : Nat)) (by unfold execOp; dsimp only; simp only [e1]; rfl) ⟨_, rfl, rfl, Below.refl _ _⟩
       | 11, _, ho, hd =>
        obtain rfl := Option.some.inj ho
        have e0 : a.eval (.tmp 166) = .slice (some ⟨xb, xo, none⟩) N cap := hd 9 166 (by kernel_rfl) (by kernel_rfl)
        have e1 : a.eval (.tmp 167) = .int .i64 (q : Nat) := hd 10 167 (by kernel_rfl) (by kernel_rfl)
        exact wp_valF (v := .pointer (some ⟨xb, xo + q, none⟩)) (by unfold execOp; dsimp only; simp only [e0, e1]; go_simp) ⟨_, rfl, rfl, Below.refl _ _⟩
       | 12, _, ho, hd =>
        obtain rfl := Option.some.inj ho
        have e1 : a.eval (.tmp 168) = .pointer (some ⟨xb, xo + q, none⟩) := hd 11 168 (by kernel_rfl) (by kernel_rfl)
        have hc := (below_cell hB HYB.out)
        exact wp_valF (v := .int .u8 (nb : Int)) (by unfold execOp; dsimp only; simp only [e1]; simp [hc, go_sem]) ⟨_, rfl, rfl, Below.refl _ _⟩
       | 13, _, ho, hd =>
        obtain rfl := Option.some.inj ho
        have e0 : a.eval (.tmp 169) = .int .u8 (nb : Int) := hd 12 169 (by kernel_rfl) (by kernel_rfl)
        exact wp_valF (v := .int .i64 (nb : Int)) (by unfold execOp; dsimp only; simp only [e0]; go_simp; exact wrap_i _ (by omega) (by omega)) ⟨_, rfl, rfl, Below.refl _ _⟩
       | 14, _, ho, hd =>
        obtain rfl := Option.some.inj ho
        have e1 : a.eval (.tmp 13) = .slice (some ⟨rb9, ro9, none⟩) 1 vc9 := (hs 13 (by kernel_rfl)).trans rfl
        exact wp_valF (v := .slice (some ⟨rb9, ro9, none⟩) 1 vc9) (by unfold execOp; dsimp only; simp only [e1]; rfl) ⟨_, rfl, rfl, Below.refl _ _⟩
       | 15, _, ho, hd =>
        obtain rfl := Option.some.inj ho
        have e0 : a.eval (.tmp 171) = .slice (some ⟨rb9, ro9, none⟩) 1 vc9 := hd 14 171 (by kernel_rfl) (by kernel_rfl)
        have c0 : a.eval (.const (.int .i64 0)) = .int .i64 0 := rfl
        exact wp_valF (v := .pointer (some ⟨rb9, ro9, none⟩)) (by unfold execOp; dsimp only; simp only [e0, c0]; go_simp) ⟨_, rfl, rfl, Below.refl _ _⟩
       | 16, _, ho, hd =>
        obtain rfl := Option.some.inj ho
        have e1 : a.eval (.tmp 172) = .pointer (some ⟨rb9, ro9, none⟩) := hd 15 172 (by kernel_rfl) (by kernel_rfl)
        have hc := (below_cell hB HYU.out)
        exact wp_valF (v := .string u0) (by unfold execOp; dsimp only; simp only [e1]; simp [hc, go_sem]) ⟨_, rfl, rfl, Below.refl _ _⟩
       | 17, _, ho, hd =>
        obtain rfl := Option.some.inj ho
        have e0 : a.eval (.tmp 159) = .string t0 := hd 2 159 (by kernel_rfl) (by kernel_rfl)
        have e1 : a.eval (.tmp 162) = .string t1 := hd 5 162 (by kernel_rfl) (by kernel_rfl)
        have e2 : a.eval (.tmp 165) = .string t2 := hd 8 165 (by kernel_rfl) (by kernel_rfl)
        have e3 : a.eval (.tmp 170) = .int .i64 (nb : Int) := hd 13 170 (by kernel_rfl) (by kernel_rfl)
        have e4 : a.eval (.tmp 173) = .string u0 := hd 16 173 (by kernel_rfl) (by kernel_rfl)
        exact wp_valF (v := .agg #[.string t0, .string t1, .string t2, .int .i64 (nb : Int), .string u0, .int .u64 0, .int .u64 0]) (by unfold execOp; dsimp only; simp only [List.map_toArray, List.map_cons, List.map_nil, e0, e1, e2, e3, e4]; go_simp) ⟨_, rfl, rfl, Below.refl _ _⟩
       | 18, _, ho, hd =>
        obtain rfl := Option.some.inj ho
        have e0 : a.eval (.tmp 6) = .pointer (some ⟨g3, 0, none⟩) := (hs 6 (by kernel_rfl)).trans rfl
        exact wp_valF (v := .pointer (some ⟨g3, 12, none⟩)) (by unfold execOp; dsimp only; simp only [e0]; go_simp) ⟨_, rfl, rfl, Below.refl _ _⟩
       | k + 19, hi, _, _ => exact absurd hi (by omega)
      case tail =>
       intro vs W hB hR
       have r0 : vs 0 = .slice (some ⟨rb, ro, none⟩) 3 vc := hR 0 (by decide)
       have r1 : vs 1 = .pointer (some ⟨rb, ro, none⟩) := hR 1 (by decide)
       have r2 : vs 2 = .string t0 := hR 2 (by decide)
       have r3 : vs 3 = .slice (some ⟨rb, ro, none⟩) 3 vc := hR 3 (by decide)
       have r4 : vs 4 = .pointer (some ⟨rb, ro + 1, none⟩) := hR 4 (by decide)
       have r5 : vs 5 = .string t1 := hR 5 (by decide)
       have r6 : vs 6 = .slice (some ⟨rb, ro, none⟩) 3 vc := hR 6 (by decide)
       have r7 : vs 7 = .pointer (some ⟨rb, ro + 2, none⟩) := hR 7 (by decide)
       have r8 : vs 8 = .string t2 := hR 8 (by decide)
       have r9 : vs 9 = .slice (some ⟨xb, xo, none⟩) N cap := hR 9 (by decide)
       have r10 : vs 10 = .int .i64 (q : Nat) := hR 10 (by decide)
       have r11 : vs 11 = .pointer (some ⟨xb, xo + q, none⟩) := hR 11 (by decide)
       have r12 : vs 12 = .int .u8 (nb : Int) := hR 12 (by decide)
       have r13 : vs 13 = .int .i64 (nb : Int) := hR 13 (by decide)
       have r14 : vs 14 = .slice (some ⟨rb9, ro9, none⟩) 1 vc9 := hR 14 (by decide)
       have r15 : vs 15 = .pointer (some ⟨rb9, ro9, none⟩) := hR 15 (by decide)
       have r16 : vs 16 = .string u0 := hR 16 (by decide)
       have r17 : vs 17 = .agg #[.string t0, .string t1, .string t2, .int .i64 (nb : Int), .string u0, .int .u64 0, .int .u64 0] := hR 17 (by decide)
       have r18 : vs 18 = .pointer (some ⟨g3, 12, none⟩) := hR 18 (by decide)
       clear hR
       have HIW : Hid (DI w g2 g3 (Opp.v ⟨(3 : Nat), nodeZ, svcZ, chkZ, true, (t : Nat)⟩ (.slice none 0 0)) (oppZ.v (.slice none 0 0)) W) := HI9.out.below hB
       have HW3 : Hid (Blk W g3 (Opp.v ⟨(3 : Nat), nodeZ, svcZ, chkZ, true, (t : Nat)⟩ (.slice none 0 0)) 54) := HIW.out.k3
       obtain ⟨we, Hwe⟩ : ∃ x, Hid (x = putC W g3 12 [.string t0, .string t1, .string t2, .int .i64 (nb : Nat), .string u0, .int .u64 0, .int .u64 0]) := ⟨_, rfl⟩
       have HIe : Hid (DI w g2 g3 (Opp.v ⟨3, nodeZ, svcZ, ⟨t0, t1, t2, (nb : Nat), u0, 0, 0⟩, true, (t : Nat)⟩ (.slice none 0 0)) (oppZ.v (.slice none 0 0)) we) := by rw [Hwe.out]; exact HIW.out.put h3w h23 [.string t0, .string t1, .string t2, .int .i64 (nb : Nat), .string u0, .int .u64 0, .int .u64 0] 12 rfl (Nat.le_of_ble_eq_true rfl)
       clear HI9 HRW9 hB x0 HIW HY0 HY1 HY2 HYU HYB
       simp only [putL, put_lit, List.setIfInBounds_toArray, List.set_cons_succ, List.set_cons_zero, List.drop_succ_cons, List.drop_zero]
       rw [r0, r1, r2, r3, r4, r5, r6, r7, r8, r9, r10, r11, r12, r13, r14, r15, r16, r17, r18]
       clear r0 r1 r2 r3 r4 r5 r6 r7 r8 r9 r10 r11 r12 r13 r14 r15 r16 r17 r18
       go_step
       refine wp_put_part (g := g3) (o := 12) (l := [.string t0, .string t1, .string t2, .int .i64 (nb : Nat), .string u0, .int .u64 0, .int .u64 0]) rfl HW3.out rfl rfl (Nat.le_of_ble_eq_true rfl) size_chk (by simp [Value.oneCell']) ?_
       rw [← Hwe.out]
       clear Hwe HW3
       go_upto_region 47 with fail
       obtain ⟨oo, Hoo⟩ : ∃ x : Opp, Hid (x = ⟨3, nodeZ, svcZ, ⟨t0, t1, t2, (nb : Nat), u0, 0, 0⟩, true, (t : Nat)⟩) := ⟨_, rfl⟩
       have HFin : Hid (OpAtA w l p (.returned (.tuple #[.agg (oo.v (.slice none 0 0)), .int .i64 (q9 : Nat)])) (we.setRow g2 (oo.v (.slice none 0 0)))) := by
        refine ⟨below_setRow HIe.out.bl h2w _, .inl ⟨oo, q9, .slice none 0 0, by rw [HPO.out, Hoo.out] <;> rfl, by rw [← HN.out]; exact hq9, rfl, ?_⟩⟩
        rw [Hoo.out]
        exact World.ownsRow_nil _ _ _ _
       have HK3 : Hid (Blk we g3 (oo.v (.slice none 0 0)) 54) := by rw [Hoo.out]; exact HIe.out.k3
       have HK2 : Hid (Blk we g2 (oppZ.v (.slice none 0 0)) 54) := HIe.out.k2
       have HLd : Hid ((loadVar 54 ⟨g2, 0, none⟩).run Tryz.prog (we.setRow g2 (oo.v (.slice none 0 0))) = .ok (.agg (oo.v (.slice none 0 0))) (we.setRow g2 (oo.v (.slice none 0 0)))) := load_op (blk_setRow HK2.out _) rfl
       have HONE : Hid ((oo.v (.slice none 0 0)).all (·.oneCell') = true) := v_oneN _ _ _ _
       clear HIe HPO Hoo
       iterate 2 go_step
       refine wp_get_op rfl HK3.out rfl rfl ?_
       iterate 5 go_step
       refine wp_put_op rfl HK2.out rfl rfl rfl rfl HONE.out ?_
       go_wp2
       exact ret_box45 (g := g2) (w := (we.setRow g2 (oo.v (.slice none 0 0)))) rfl rfl rfl rfl HLd.out HFin.out
     ·have HNo : Hid (raP (l.drop p) = none) := by
       show _ = _
       rw [HRA.out]
       exact rb3_odd HT3.ok HT3.rest (by rw [List.length_drop, ← HN.out]; omega) (by rw [HD1.out]; exact hodd9)
      have HI9 : Hid (DI w g2 g3 (Opp.v ⟨(3 : Nat), nodeZ, svcZ, chkZ, true, (t : Nat)⟩ (.slice none 0 0)) (oppZ.v (.slice none 0 0)) w9) := HI8.out.below hb9
      clear HT3 HRA hodd9 hb9 HROW HI8 HD1 hcb
      have HNone : Hid (raP (l.drop p) = none) := HNo
      obtain ⟨CC, HCC⟩ : ∃ x : Array Value, Hid (x = Opp.v ⟨(3 : Nat), nodeZ, svcZ, chkZ, true, (t : Nat)⟩ (.slice none 0 0)) := ⟨_, rfl⟩
      have HK3 : Hid (Blk w9 g3 CC 54) := by rw [HCC.out]; exact HI9.out.k3
      have HK2 : Hid (Blk w9 g2 (oppZ.v (.slice none 0 0)) 54) := HI9.out.k2
      have HS : Hid (CC.size = 21) := by rw [HCC.out]; rfl
      have HONE : Hid (CC.all (·.oneCell') = true) := by rw [HCC.out]; exact v_oneN _ _ _ _
      have HLd : Hid ((loadVar 54 ⟨g2, 0, none⟩).run Tryz.prog (w9.setRow g2 CC) = .ok (.agg CC) (w9.setRow g2 CC)) := load_op (blk_setRow HK2.out _) HS.out
      have HFin : Hid (OpAtA w l p (.returned (.tuple #[.agg CC, .int .i64 (-1)])) (w9.setRow g2 CC)) := ⟨below_setRow HI9.out.bl h2w _, .inr ⟨HNone.out, _, HS.out, HONE.out, rfl⟩⟩
      clear HI9 HNone HCC
      go_upto_region 36 with fail
      iterate 2 go_step
      refine wp_get_op rfl HK3.out rfl HS.out ?_
      iterate 2 go_step
      refine wp_put_op rfl HK2.out rfl rfl rfl HS.out HONE.out ?_
      go_wp2
      exact ret_box45 (g := g2) (w := (w9.setRow g2 CC)) rfl rfl rfl rfl HLd.out HFin.out
   ·have HNo : Hid (raP (l.drop p) = none) := by
     show _ = _
     rw [HRA.out]
     simp only [rbP, manyP]
     simp [hodd]
    have HI8 : Hid (DI w g2 g3 (Opp.v ⟨(3 : Nat), nodeZ, svcZ, chkZ, true, (t : Nat)⟩ (.slice none 0 0)) (oppZ.v (.slice none 0 0)) w8) := HI7.out.below hb
    clear hb hodd HI7 HRA HM
    have HNone : Hid (raP (l.drop p) = none) := HNo
    obtain ⟨CC, HCC⟩ : ∃ x : Array Value, Hid (x = Opp.v ⟨(3 : Nat), nodeZ, svcZ, chkZ, true, (t : Nat)⟩ (.slice none 0 0)) := ⟨_, rfl⟩
    have HK3 : Hid (Blk w8 g3 CC 54) := by rw [HCC.out]; exact HI8.out.k3
    have HK2 : Hid (Blk w8 g2 (oppZ.v (.slice none 0 0)) 54) := HI8.out.k2
    have HS : Hid (CC.size = 21) := by rw [HCC.out]; rfl
    have HONE : Hid (CC.all (·.oneCell') = true) := by rw [HCC.out]; exact v_oneN _ _ _ _
    have HLd : Hid ((loadVar 54 ⟨g2, 0, none⟩).run Tryz.prog (w8.setRow g2 CC) = .ok (.agg CC) (w8.setRow g2 CC)) := load_op (blk_setRow HK2.out _) HS.out
    have HFin : Hid (OpAtA w l p (.returned (.tuple #[.agg CC, .int .i64 (-1)])) (w8.setRow g2 CC)) := ⟨below_setRow HI8.out.bl h2w _, .inr ⟨HNone.out, _, HS.out, HONE.out, rfl⟩⟩
    clear HI8 HNone HCC
    go_upto_region 21 with fail
    iterate 2 go_step
    refine wp_get_op rfl HK3.out rfl HS.out ?_
    iterate 2 go_step
    refine wp_put_op rfl HK2.out rfl rfl rfl HS.out HONE.out ?_
    go_wp2
    exact ret_box45 (g := g2) (w := (w8.setRow g2 CC)) rfl rfl rfl rfl HLd.out HFin.out
end Go.Proofs.YtbhhjnbomhkdmaaGreatDoor
