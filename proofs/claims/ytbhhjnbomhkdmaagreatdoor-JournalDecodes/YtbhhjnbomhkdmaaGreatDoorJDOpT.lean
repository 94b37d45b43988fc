import Derived.Test.YtbhhjnbomhkdmaaGreatDoorJRDec
import Derived.Test.YtbhhjnbomhkdmaaGreatDoorJRop
/- Layer 13 (journal): the document's opAt: what stands between its steps. -/
namespace Go.Proofs.YtbhhjnbomhkdmaaGreatDoor
open Go.RowKit
set_option linter.unusedVariables false

/-- What opAt answers. -/
def OpAtA (w : World) (l : List UInt8) (p : Nat) (e : Ending) (w' : World) : Prop := Below w.heap.size w w' ∧
  ((∃ o q tv, raP (l.drop p) = some (o, l.drop q) ∧ q ≤ l.length ∧ e = .returned (.tuple #[.agg (o.v tv), .int .i64 (q : Nat)]) ∧ w'.ownsRow w.heap.size 9 1 tv o.svc.tags.length (o.svc.tags.map Value.string)) ∨
   (raP (l.drop p) = none ∧ ∃ cs : Array Value, cs.size = 21 ∧ cs.all (·.oneCell') = true ∧ e = .returned (.tuple #[.agg cs, .int .i64 (-1)])))
theorem ret_box45 {fn : Func} {R : Ending → World → Prop} {a : Act} {w : World} {g : Nat} {cs : Array Value} {T : TypeId} {e1 : Value} (hres : fn.results = #[.cell 4 T, .tmp 5]) (ht : a.tmps.getD 4 undef = .pointer (some ⟨g, 0, none⟩)) (h3 : a.tmps.getD 5 undef = e1) (hd : a.defers = [])
  (hl : (loadVar T ⟨g, 0, none⟩).run Tryz.prog w = .ok (.agg cs) w) (hR : R (.returned (.tuple #[.agg cs, e1])) w) : bodyPost Tryz.prog fn R .ret a w := by
 refine bodyPost_ret ?_ hd hR
 have ht' : a.tmps[4]?.getD undef = .pointer (some ⟨g, 0, none⟩) := by simpa using ht
 have h3' : a.tmps[5]?.getD undef = e1 := by simpa using h3
 simp [results, hres, ht', h3', asAddr, hl]
/-- What stands between two steps of opAt. -/
structure DI (w : World) (g2 g3 : Nat) (C Z : Array Value) (W : World) : Prop where
 bl : Below w.heap.size w W
 k3 : Blk W g3 C 54
 k2 : Blk W g2 Z 54
theorem DI.put {w W : World} {g2 g3 : Nat} {C C' Z : Array Value} (h : DI w g2 g3 C Z W) (h3 : w.heap.size ≤ g3) (h23 : g2 ≠ g3) (l : List Value) (k : Nat) (hC : (C.toList.take k ++ l ++ C.toList.drop (k + l.length)).toArray = C') (hk : k + l.length ≤ C.size) : DI w g2 g3 C' Z (putC W g3 k l) :=
 ⟨putC_below _ _ _ h.bl h3, by rw [← hC]; exact putC_mid l W k C h.k3 hk, putC_other h23 l W k h.k2⟩
theorem DI.below {w W W' : World} {g2 g3 : Nat} {C Z : Array Value} (h : DI w g2 g3 C Z W) (hb : Below W.heap.size W W') : DI w g2 g3 C Z W' :=
 ⟨h.bl.trans (hb.mono h.bl.size), h.k3.below hb, h.k2.below hb⟩
theorem raP_none1 {l : List UInt8} {p : Nat} (h : l.length < p + 2) : raP (l.drop p) = none := by
 unfold raP
 rw [if_pos (by rw [List.length_drop]; omega)]
theorem getD_drop {l : List UInt8} {p k : Nat} {c : UInt8} (h : l[p + k]? = some c) : (l.drop p).getD k 0 = c := by
 rw [List.getD, List.getElem?_drop, h]; rfl
theorem raP_none2 {l : List UInt8} {p : Nat} {c1 : UInt8} (hs : p + 2 ≤ l.length) (hg1 : l[p + 1]? = some c1) (hc : c1 = 1) (h : l.length < p + 10) : raP (l.drop p) = none := by
 unfold raP
 rw [if_neg (by rw [List.length_drop]; omega), getD_drop hg1, if_pos hc, if_pos (by rw [List.length_drop]; omega)]
theorem raP_none3 {l : List UInt8} {p : Nat} {c0 : UInt8} (hs : p + 2 ≤ l.length) (hg0 : l[p]? = some c0) (hc : c0.toNat < 1 ∨ 6 < c0.toNat) : raP (l.drop p) = none := by
 have e : (l.drop p).getD 0 0 = c0 := getD_drop (k := 0) (by simpa using hg0)
 unfold raP
 rw [if_neg (by rw [List.length_drop]; omega), e]
 simp only [if_pos hc, ite_self]
theorem raP_F {l : List UInt8} {p : Nat} {c0 c1 : UInt8} (hs : p + 2 ≤ l.length) (hg0 : l[p]? = some c0) (hg1 : l[p + 1]? = some c1) (hc : c1 ≠ 1) (hk : ¬ (c0.toNat < 1 ∨ 6 < c0.toNat)) : raP (l.drop p) = rbP c0.toNat false 0 (l.drop (p + 2)) := by
 have e : (l.drop p).getD 0 0 = c0 := getD_drop (k := 0) (by simpa using hg0)
 unfold raP
 rw [if_neg (by rw [List.length_drop]; omega), e, getD_drop hg1, if_neg hc, if_neg hk, List.drop_drop]
theorem raP_T {l : List UInt8} {p : Nat} {c0 c1 : UInt8} (hs : p + 10 ≤ l.length) (hg0 : l[p]? = some c0) (hg1 : l[p + 1]? = some c1) (hc : c1 = 1) (hk : ¬ (c0.toNat < 1 ∨ 6 < c0.toNat)) : raP (l.drop p) = rbP c0.toNat true (unbig ((l.drop (p + 2)).take 8)) (l.drop (p + 10)) := by
 have e : (l.drop p).getD 0 0 = c0 := getD_drop (k := 0) (by simpa using hg0)
 unfold raP
 rw [if_neg (by rw [List.length_drop]; omega), e, getD_drop hg1, if_pos hc, if_neg (by rw [List.length_drop]; omega), if_neg hk, List.drop_drop, List.drop_drop]
theorem list_one {α : Type} {x : List α} (h : x.length = 1) : ∃ a, x = [a] := List.length_eq_one_iff.1 h
theorem list_two {α : Type} {x : List α} (h : x.length = 2) : ∃ a b, x = [a, b] := by
 match x, h with
 | [a, b], _ => exact ⟨a, b, rfl⟩
theorem list_three {α : Type} {x : List α} (h : x.length = 3) : ∃ a b c, x = [a, b, c] := by
 match x, h with
 | [a, b, c], _ => exact ⟨a, b, c, rfl⟩
set_option maxRecDepth 100000 in
set_option maxHeartbeats 8000000 in
theorem opAt_short (xb xo cap : Nat) (l : List UInt8) (p : Nat) (w : World) (hl : l.length ≤ 131072) (hcap : l.length < cap) (hcm : cap ≤ maxLen) (hp : p ≤ l.length) (h : BAt w (some ⟨xb, xo, none⟩) l) (hs : l.length < p + 2) :
  Calls Tryz.prog 34 #[.slice (some ⟨xb, xo, none⟩) l.length cap, .int .i64 (p : Nat)] w (OpAtA w l p) := by
 obtain ⟨wx, Hwx⟩ : ∃ x, Hid (x = w.alloc (.cells (oppZ.v (.slice none 0 0)) 54)) := ⟨_, rfl⟩
 have HB : Hid (Below w.heap.size w wx) := by rw [Hwx.out]; exact below_new w _
 have HX : Hid (Blk wx w.heap.size (oppZ.v (.slice none 0 0)) 54) := by rw [Hwx.out]; exact Blk.new _ _ _
 have HT : Hid (BAt w (some ⟨xb, xo, none⟩) l) := h
 obtain ⟨N, HN⟩ : ∃ N, Hid (N = l.length) := ⟨_, rfl⟩
 clear h
 rw [← HN.out] at hl hcap hp hs ⊢
 go_enter Tryz.func34, Tryz.ntmps34
 go_upto_region 1 with fail
 change Code.wp _ _ _ _ (w.alloc (.cells (oppZ.v (.slice none 0 0)) 54))
 rw [← Hwx.out]
 clear Hwx
 iterate 8 go_step
 refine wp_store_op (c' := Opp.v oppZ (.slice none 0 0)) rfl rfl rfl rfl rfl rfl (v_oneN _ _ _ _) ?_
 obtain ⟨w2, Hw2⟩ : ∃ x, Hid (x = wx.alloc (.cells (Opp.v oppZ (.slice none 0 0)) 54)) := ⟨_, rfl⟩
 have hsz1 : w.heap.size + 1 ≤ wx.heap.size := by have := HX.out.lt; omega
 have HI2 : Hid (DI w w.heap.size wx.heap.size (Opp.v oppZ (.slice none 0 0)) (oppZ.v (.slice none 0 0)) w2) := by
  rw [Hw2.out]
  exact ⟨HB.out.trans ((below_new _ _).mono HB.out.size), Blk.new _ _ _, HX.out.alloc _⟩
 rw [← Hw2.out]
 obtain ⟨g3, Hg3⟩ : ∃ x, Hid (x = wx.heap.size) := ⟨_, rfl⟩
 rw [← Hg3.out] at HI2 hsz1 ⊢
 obtain ⟨g2, Hg2⟩ : ∃ x, Hid (x = w.heap.size) := ⟨_, rfl⟩
 have h3w : w.heap.size ≤ g3 := by omega
 have h23 : g2 ≠ g3 := by rw [Hg2.out]; omega
 have h2w : w.heap.size ≤ g2 := by rw [Hg2.out]; exact Nat.le_refl _
 rw [← Hg2.out] at HI2 ⊢
 clear Hw2 Hg3 HX hsz1 HB Hg2
 have HNone : Hid (raP (l.drop p) = none) := raP_none1 (by rw [← HN.out]; exact hs)
 obtain ⟨CC, HCC⟩ : ∃ x : Array Value, Hid (x = Opp.v oppZ (.slice none 0 0)) := ⟨_, rfl⟩
 have HK3 : Hid (Blk w2 g3 CC 54) := by rw [HCC.out]; exact HI2.out.k3
 have HK2 : Hid (Blk w2 g2 (oppZ.v (.slice none 0 0)) 54) := HI2.out.k2
 have HS : Hid (CC.size = 21) := by rw [HCC.out]; rfl
 have HONE : Hid (CC.all (·.oneCell') = true) := by rw [HCC.out]; exact v_oneN _ _ _ _
 have HLd : Hid ((loadVar 54 ⟨g2, 0, none⟩).run Tryz.prog (w2.setRow g2 CC) = .ok (.agg CC) (w2.setRow g2 CC)) := load_op (blk_setRow HK2.out _) HS.out
 have HFin : Hid (OpAtA w l p (.returned (.tuple #[.agg CC, .int .i64 (-1)])) (w2.setRow g2 CC)) := ⟨below_setRow HI2.out.bl h2w _, .inr ⟨HNone.out, _, HS.out, HONE.out, rfl⟩⟩
 clear HI2 HNone HCC
 go_upto_region 3 with fail
 iterate 2 go_step
 refine wp_get_op rfl HK3.out rfl HS.out ?_
 iterate 2 go_step
 refine wp_put_op rfl HK2.out rfl rfl rfl HS.out HONE.out ?_
 go_wp2
 exact ret_box45 (g := g2) (w := (w2.setRow g2 CC)) rfl rfl rfl rfl HLd.out HFin.out
set_option maxRecDepth 100000 in
set_option maxHeartbeats 8000000 in
theorem opAt_short2 (xb xo cap : Nat) (l : List UInt8) (p : Nat) (w : World) (hl : l.length ≤ 131072) (hcap : l.length < cap) (hcm : cap ≤ maxLen) (hp : p ≤ l.length) (h : BAt w (some ⟨xb, xo, none⟩) l) (hs : p + 2 ≤ l.length) (c0 c1 : UInt8) (hg0 : l[p]? = some c0) (hg1 : l[p + 1]? = some c1) (hcs : c1 = 1) (hs2 : l.length < p + 10) :
  Calls Tryz.prog 34 #[.slice (some ⟨xb, xo, none⟩) l.length cap, .int .i64 (p : Nat)] w (OpAtA w l p) := by
 have HNo : Hid (raP (l.drop p) = none) := raP_none2 hs hg1 hcs hs2
 obtain ⟨wx, Hwx⟩ : ∃ x, Hid (x = w.alloc (.cells (oppZ.v (.slice none 0 0)) 54)) := ⟨_, rfl⟩
 have HB : Hid (Below w.heap.size w wx) := by rw [Hwx.out]; exact below_new w _
 have HX : Hid (Blk wx w.heap.size (oppZ.v (.slice none 0 0)) 54) := by rw [Hwx.out]; exact Blk.new _ _ _
 have HT : Hid (BAt w (some ⟨xb, xo, none⟩) l) := h
 obtain ⟨N, HN⟩ : ∃ N, Hid (N = l.length) := ⟨_, rfl⟩
 clear h
 rw [← HN.out] at hl hcap hp hs hs2 ⊢
 go_enter Tryz.func34, Tryz.ntmps34
 go_upto_region 1 with fail
 change Code.wp _ _ _ _ (w.alloc (.cells (oppZ.v (.slice none 0 0)) 54))
 rw [← Hwx.out]
 clear Hwx
 iterate 8 go_step
 refine wp_store_op (c' := Opp.v oppZ (.slice none 0 0)) rfl rfl rfl rfl rfl rfl (v_oneN _ _ _ _) ?_
 obtain ⟨w2, Hw2⟩ : ∃ x, Hid (x = wx.alloc (.cells (Opp.v oppZ (.slice none 0 0)) 54)) := ⟨_, rfl⟩
 have hsz1 : w.heap.size + 1 ≤ wx.heap.size := by have := HX.out.lt; omega
 have HI2 : Hid (DI w w.heap.size wx.heap.size (Opp.v oppZ (.slice none 0 0)) (oppZ.v (.slice none 0 0)) w2) := by
  rw [Hw2.out]
  exact ⟨HB.out.trans ((below_new _ _).mono HB.out.size), Blk.new _ _ _, HX.out.alloc _⟩
 rw [← Hw2.out]
 obtain ⟨g3, Hg3⟩ : ∃ x, Hid (x = wx.heap.size) := ⟨_, rfl⟩
 rw [← Hg3.out] at HI2 hsz1 ⊢
 obtain ⟨g2, Hg2⟩ : ∃ x, Hid (x = w.heap.size) := ⟨_, rfl⟩
 have h3w : w.heap.size ≤ g3 := by omega
 have h23 : g2 ≠ g3 := by rw [Hg2.out]; omega
 have h2w : w.heap.size ≤ g2 := by rw [Hg2.out]; exact Nat.le_refl _
 rw [← Hg2.out] at HI2 ⊢
 clear Hw2 Hg3 HX hsz1 HB Hg2
 obtain ⟨b0, o0, e0, hc0⟩ := (HT.out.below (HI2.out.bl)).at p (by rw [← HN.out]; omega)
 obtain ⟨rfl, rfl⟩ : xb = b0 ∧ xo = o0 := by simpa using e0
 rw [show l[p]'(by rw [← HN.out]; omega) = c0 from Option.some.inj ((List.getElem?_eq_getElem (by rw [← HN.out]; omega)).symm.trans hg0)] at hc0
 have hcl0 := byte_le c0
 have HT2 : Hid (BAt w2 (some ⟨xb, xo, none⟩) l) := HT.out.below HI2.out.bl
 have x0 : w2.cell? ⟨g3, 0, none⟩ = some (.int .i64 0) := HI2.out.k3.cell 0 rfl
 have f0 := HI2.out.k3.open 0
 obtain ⟨kd, Hkd⟩ : ∃ x, Hid (x = c0.toNat) := ⟨_, rfl⟩
 rw [← Hkd.out] at hc0 hcl0
 obtain ⟨w4, Hw4⟩ : ∃ x, Hid (x = putC w2 g3 0 [.int .i64 (kd : Nat)]) := ⟨_, rfl⟩
 have HI4 : Hid (DI w g2 g3 (Opp.v ⟨(kd : Nat), nodeZ, svcZ, chkZ, false, 0⟩ (.slice none 0 0)) (oppZ.v (.slice none 0 0)) w4) := by rw [Hw4.out]; exact HI2.out.put h3w h23 [.int .i64 (kd : Nat)] 0 rfl (Nat.le_of_ble_eq_true rfl)
 clear e0 HI2 HT2
 go_upto_region 5 with fail
 change Code.wp _ _ _ _ (putC w2 g3 0 [.int .i64 (kd : Nat)])
 rw [← Hw4.out]
 clear Hw4 x0 f0 hc0
 obtain ⟨b1, o1, e1, hc1⟩ := (HT.out.below (HI4.out.bl)).at (p + 1) (by rw [← HN.out]; omega)
 obtain ⟨rfl, rfl⟩ : xb = b1 ∧ xo = o1 := by simpa using e1
 rw [show l[p + 1]'(by rw [← HN.out]; omega) = c1 from Option.some.inj ((List.getElem?_eq_getElem (by rw [← HN.out]; omega)).symm.trans hg1)] at hc1
 have hcq : ((c1.toNat : Int) == 1) = true := by
  rw [hcs]; rfl
 have hcl1 := byte_le c1
 have x19 : w4.cell? ⟨g3, 19, none⟩ = some (.bool false) := HI4.out.k3.cell 19 rfl
 have f19 := HI4.out.k3.open 19
 obtain ⟨w5, Hw5⟩ : ∃ x, Hid (x = putC w4 g3 19 [.bool true]) := ⟨_, rfl⟩
 have HI5 : Hid (DI w g2 g3 (Opp.v ⟨(kd : Nat), nodeZ, svcZ, chkZ, true, 0⟩ (.slice none 0 0)) (oppZ.v (.slice none 0 0)) w5) := by rw [Hw5.out]; exact HI4.out.put h3w h23 [.bool true] 19 rfl (Nat.le_of_ble_eq_true rfl)
 clear e1 HI4
 go_upto_region 6 with fail
 change Code.wp _ _ _ _ (putC w4 g3 19 [.bool true])
 rw [← Hw5.out]
 clear Hw5 x19 f19 hc1 hcq hcl1
 have x19 : w5.cell? ⟨g3, 19, none⟩ = some (.bool true) := HI5.out.k3.cell 19 rfl
 have HNone : Hid (raP (l.drop p) = none) := HNo
 obtain ⟨CC, HCC⟩ : ∃ x : Array Value, Hid (x = Opp.v ⟨(kd : Nat), nodeZ, svcZ, chkZ, true, 0⟩ (.slice none 0 0)) := ⟨_, rfl⟩
 have HK3 : Hid (Blk w5 g3 CC 54) := by rw [HCC.out]; exact HI5.out.k3
 have HK2 : Hid (Blk w5 g2 (oppZ.v (.slice none 0 0)) 54) := HI5.out.k2
 have HS : Hid (CC.size = 21) := by rw [HCC.out]; rfl
 have HONE : Hid (CC.all (·.oneCell') = true) := by rw [HCC.out]; exact v_oneN _ _ _ _
 have HLd : Hid ((loadVar 54 ⟨g2, 0, none⟩).run Tryz.prog (w5.setRow g2 CC) = .ok (.agg CC) (w5.setRow g2 CC)) := load_op (blk_setRow HK2.out _) HS.out
 have HFin : Hid (OpAtA w l p (.returned (.tuple #[.agg CC, .int .i64 (-1)])) (w5.setRow g2 CC)) := ⟨below_setRow HI5.out.bl h2w _, .inr ⟨HNone.out, _, HS.out, HONE.out, rfl⟩⟩
 clear HI5 HNone HCC
 go_upto_region 9 with fail
 iterate 2 go_step
 refine wp_get_op rfl HK3.out rfl HS.out ?_
 iterate 2 go_step
 refine wp_put_op rfl HK2.out rfl rfl rfl HS.out HONE.out ?_
 go_wp2
 exact ret_box45 (g := g2) (w := (w5.setRow g2 CC)) rfl rfl rfl rfl HLd.out HFin.out
end Go.Proofs.YtbhhjnbomhkdmaaGreatDoor

/- Layer 13 (journal): the document's opAt, of no kind. -/
namespace Go.Proofs.YtbhhjnbomhkdmaaGreatDoor
open Go.RowKit
set_option linter.unusedVariables false

set_option maxRecDepth 100000 in
set_option maxHeartbeats 8000000 in
theorem opAt_kindF (xb xo cap : Nat) (l : List UInt8) (p : Nat) (w : World) (hl : l.length ≤ 131072) (hcap : l.length < cap) (hcm : cap ≤ maxLen) (hp : p ≤ l.length) (h : BAt w (some ⟨xb, xo, none⟩) l) (hs : p + 2 ≤ l.length) (c0 c1 : UInt8) (hg0 : l[p]? = some c0) (hg1 : l[p + 1]? = some c1) (hcs : c1 ≠ 1) (hkb : c0.toNat < 1 ∨ 6 < c0.toNat) :
  Calls Tryz.prog 34 #[.slice (some ⟨xb, xo, none⟩) l.length cap, .int .i64 (p : Nat)] w (OpAtA w l p) := by
 have HNo : Hid (raP (l.drop p) = none) := raP_none3 hs hg0 hkb
 obtain ⟨wx, Hwx⟩ : ∃ x, Hid (x = w.alloc (.cells (oppZ.v (.slice none 0 0)) 54)) := ⟨_, rfl⟩
 have HB : Hid (Below w.heap.size w wx) := by rw [Hwx.out]; exact below_new w _
 have HX : Hid (Blk wx w.heap.size (oppZ.v (.slice none 0 0)) 54) := by rw [Hwx.out]; exact Blk.new _ _ _
 have HT : Hid (BAt w (some ⟨xb, xo, none⟩) l) := h
 obtain ⟨N, HN⟩ : ∃ N, Hid (N = l.length) := ⟨_, rfl⟩
 clear h
 rw [← HN.out] at hl hcap hp hs ⊢
 go_enter Tryz.func34, Tryz.ntmps34
 go_upto_region 1 with fail
 change Code.wp _ _ _ _ (w.alloc (.cells (oppZ.v (.slice none 0 0)) 54))
 rw [← Hwx.out]
 clear Hwx
 iterate 8 go_step
 refine wp_store_op (c' := Opp.v oppZ (.slice none 0 0)) rfl rfl rfl rfl rfl rfl (v_oneN _ _ _ _) ?_
 obtain ⟨w2, Hw2⟩ : ∃ x, Hid (x = wx.alloc (.cells (Opp.v oppZ (.slice none 0 0)) 54)) := ⟨_, rfl⟩
 have hsz1 : w.heap.size + 1 ≤ wx.heap.size := by have := HX.out.lt; omega
 have HI2 : Hid (DI w w.heap.size wx.heap.size (Opp.v oppZ (.slice none 0 0)) (oppZ.v (.slice none 0 0)) w2) := by
  rw [Hw2.out]
  exact ⟨HB.out.trans ((below_new _ _).mono HB.out.size), Blk.new _ _ _, HX.out.alloc _⟩
 rw [← Hw2.out]
 obtain ⟨g3, Hg3⟩ : ∃ x, Hid (x = wx.heap.size) := ⟨_, rfl⟩
 rw [← Hg3.out] at HI2 hsz1 ⊢
 obtain ⟨g2, Hg2⟩ : ∃ x, Hid (x = w.heap.size) := ⟨_, rfl⟩
 have h3w : w.heap.size ≤ g3 := by omega
 have h23 : g2 ≠ g3 := by rw [Hg2.out]; omega
 have h2w : w.heap.size ≤ g2 := by rw [Hg2.out]; exact Nat.le_refl _
 rw [← Hg2.out] at HI2 ⊢
 clear Hw2 Hg3 HX hsz1 HB Hg2
 obtain ⟨b0, o0, e0, hc0⟩ := (HT.out.below (HI2.out.bl)).at p (by rw [← HN.out]; omega)
 obtain ⟨rfl, rfl⟩ : xb = b0 ∧ xo = o0 := by simpa using e0
 rw [show l[p]'(by rw [← HN.out]; omega) = c0 from Option.some.inj ((List.getElem?_eq_getElem (by rw [← HN.out]; omega)).symm.trans hg0)] at hc0
 have hcl0 := byte_le c0
 have HT2 : Hid (BAt w2 (some ⟨xb, xo, none⟩) l) := HT.out.below HI2.out.bl
 have x0 : w2.cell? ⟨g3, 0, none⟩ = some (.int .i64 0) := HI2.out.k3.cell 0 rfl
 have f0 := HI2.out.k3.open 0
 obtain ⟨kd, Hkd⟩ : ∃ x, Hid (x = c0.toNat) := ⟨_, rfl⟩
 rw [← Hkd.out] at hc0 hcl0
 obtain ⟨w4, Hw4⟩ : ∃ x, Hid (x = putC w2 g3 0 [.int .i64 (kd : Nat)]) := ⟨_, rfl⟩
 have HI4 : Hid (DI w g2 g3 (Opp.v ⟨(kd : Nat), nodeZ, svcZ, chkZ, false, 0⟩ (.slice none 0 0)) (oppZ.v (.slice none 0 0)) w4) := by rw [Hw4.out]; exact HI2.out.put h3w h23 [.int .i64 (kd : Nat)] 0 rfl (Nat.le_of_ble_eq_true rfl)
 clear e0 HI2 HT2
 go_upto_region 5 with fail
 change Code.wp _ _ _ _ (putC w2 g3 0 [.int .i64 (kd : Nat)])
 rw [← Hw4.out]
 clear Hw4 x0 f0 hc0
 obtain ⟨b1, o1, e1, hc1⟩ := (HT.out.below (HI4.out.bl)).at (p + 1) (by rw [← HN.out]; omega)
 obtain ⟨rfl, rfl⟩ : xb = b1 ∧ xo = o1 := by simpa using e1
 rw [show l[p + 1]'(by rw [← HN.out]; omega) = c1 from Option.some.inj ((List.getElem?_eq_getElem (by rw [← HN.out]; omega)).symm.trans hg1)] at hc1
 have hcq : ((c1.toNat : Int) == 1) = false := by
  simp
  intro e
  exact hcs (UInt8.toNat_inj.1 (by simpa using (by omega : c1.toNat = 1)))
 have hcl1 := byte_le c1
 have x19 : w4.cell? ⟨g3, 19, none⟩ = some (.bool false) := HI4.out.k3.cell 19 rfl
 have f19 := HI4.out.k3.open 19
 obtain ⟨w5, Hw5⟩ : ∃ x, Hid (x = putC w4 g3 19 [.bool false]) := ⟨_, rfl⟩
 have HI5 : Hid (DI w g2 g3 (Opp.v ⟨(kd : Nat), nodeZ, svcZ, chkZ, false, 0⟩ (.slice none 0 0)) (oppZ.v (.slice none 0 0)) w5) := by rw [Hw5.out]; exact HI4.out.put h3w h23 [.bool false] 19 rfl (Nat.le_of_ble_eq_true rfl)
 clear e1 HI4
 go_upto_region 6 with fail
 change Code.wp _ _ _ _ (putC w4 g3 19 [.bool false])
 rw [← Hw5.out]
 clear Hw5 x19 f19 hc1 hcq hcl1
 have x19 : w5.cell? ⟨g3, 19, none⟩ = some (.bool false) := HI5.out.k3.cell 19 rfl
 go_upto_region 17 with fail
 change Code.wp _ _ _ _ (w5.alloc (.cells #[.int .i64 0, .int .i64 2, .int .i64 3, .int .i64 3, .int .i64 1, .int .i64 2, .int .i64 2] 107))
 obtain ⟨w7, Hw7⟩ : ∃ x, Hid (x = w5.alloc (.cells #[.int .i64 0, .int .i64 2, .int .i64 3, .int .i64 3, .int .i64 1, .int .i64 2, .int .i64 2] 107)) := ⟨_, rfl⟩
 have HI7 : Hid (DI w g2 g3 (Opp.v ⟨(kd : Nat), nodeZ, svcZ, chkZ, false, 0⟩ (.slice none 0 0)) (oppZ.v (.slice none 0 0)) w7) := by rw [Hw7.out]; exact HI5.out.below (below_new _ _)
 have HM : Hid (Blk w7 w5.heap.size #[.int .i64 0, .int .i64 2, .int .i64 3, .int .i64 3, .int .i64 1, .int .i64 2, .int .i64 2] 107) := by rw [Hw7.out]; exact Blk.new _ _ _
 rw [← Hw7.out]
 clear Hw7 HI5
 have x0 : w7.cell? ⟨g3, 0, none⟩ = some (.int .i64 (kd : Nat)) := HI7.out.k3.cell 0 rfl
 have hkb' : kd < 1 ∨ 6 < kd := by rw [Hkd.out]; exact hkb
 clear hkb Hkd
 rcases hkb' with hkb | hkb
 ·obtain rfl : kd = 0 := by omega
  have HNone : Hid (raP (l.drop p) = none) := HNo
  obtain ⟨CC, HCC⟩ : ∃ x : Array Value, Hid (x = Opp.v ⟨(0 : Nat), nodeZ, svcZ, chkZ, false, 0⟩ (.slice none 0 0)) := ⟨_, rfl⟩
  have HK3 : Hid (Blk w7 g3 CC 54) := by rw [HCC.out]; exact HI7.out.k3
  have HK2 : Hid (Blk w7 g2 (oppZ.v (.slice none 0 0)) 54) := HI7.out.k2
  have HS : Hid (CC.size = 21) := by rw [HCC.out]; rfl
  have HONE : Hid (CC.all (·.oneCell') = true) := by rw [HCC.out]; exact v_oneN _ _ _ _
  have HLd : Hid ((loadVar 54 ⟨g2, 0, none⟩).run Tryz.prog (w7.setRow g2 CC) = .ok (.agg CC) (w7.setRow g2 CC)) := load_op (blk_setRow HK2.out _) HS.out
  have HFin : Hid (OpAtA w l p (.returned (.tuple #[.agg CC, .int .i64 (-1)])) (w7.setRow g2 CC)) := ⟨below_setRow HI7.out.bl h2w _, .inr ⟨HNone.out, _, HS.out, HONE.out, rfl⟩⟩
  clear HI7 HNone HCC
  go_upto_region 18 with fail
  iterate 2 go_step
  refine wp_get_op rfl HK3.out rfl HS.out ?_
  iterate 2 go_step
  refine wp_put_op rfl HK2.out rfl rfl rfl HS.out HONE.out ?_
  go_wp2
  exact ret_box45 (g := g2) (w := (w7.setRow g2 CC)) rfl rfl rfl rfl HLd.out HFin.out
 ·have n1 : ¬ (kd : Int) < 1 := by omega
  have n6 : 6 < (kd : Int) := by omega
  have HNone : Hid (raP (l.drop p) = none) := HNo
  obtain ⟨CC, HCC⟩ : ∃ x : Array Value, Hid (x = Opp.v ⟨(kd : Nat), nodeZ, svcZ, chkZ, false, 0⟩ (.slice none 0 0)) := ⟨_, rfl⟩
  have HK3 : Hid (Blk w7 g3 CC 54) := by rw [HCC.out]; exact HI7.out.k3
  have HK2 : Hid (Blk w7 g2 (oppZ.v (.slice none 0 0)) 54) := HI7.out.k2
  have HS : Hid (CC.size = 21) := by rw [HCC.out]; rfl
  have HONE : Hid (CC.all (·.oneCell') = true) := by rw [HCC.out]; exact v_oneN _ _ _ _
  have HLd : Hid ((loadVar 54 ⟨g2, 0, none⟩).run Tryz.prog (w7.setRow g2 CC) = .ok (.agg CC) (w7.setRow g2 CC)) := load_op (blk_setRow HK2.out _) HS.out
  have HFin : Hid (OpAtA w l p (.returned (.tuple #[.agg CC, .int .i64 (-1)])) (w7.setRow g2 CC)) := ⟨below_setRow HI7.out.bl h2w _, .inr ⟨HNone.out, _, HS.out, HONE.out, rfl⟩⟩
  clear HI7 HNone HCC
  go_upto_region 18 with fail
  iterate 2 go_step
  refine wp_get_op rfl HK3.out rfl HS.out ?_
  iterate 2 go_step
  refine wp_put_op rfl HK2.out rfl rfl rfl HS.out HONE.out ?_
  go_wp2
  exact ret_box45 (g := g2) (w := (w7.setRow g2 CC)) rfl rfl rfl rfl HLd.out HFin.out
end Go.Proofs.YtbhhjnbomhkdmaaGreatDoor

/- Layer 13 (journal): the document's opAt, of no kind. -/
namespace Go.Proofs.YtbhhjnbomhkdmaaGreatDoor
open Go.RowKit
set_option linter.unusedVariables false

set_option maxRecDepth 100000 in
set_option maxHeartbeats 8000000 in
theorem opAt_kindT (xb xo cap : Nat) (l : List UInt8) (p : Nat) (w : World) (hl : l.length ≤ 131072) (hcap : l.length < cap) (hcm : cap ≤ maxLen) (hp : p ≤ l.length) (h : BAt w (some ⟨xb, xo, none⟩) l) (hs : p + 2 ≤ l.length) (c0 c1 : UInt8) (hg0 : l[p]? = some c0) (hg1 : l[p + 1]? = some c1) (hcs : c1 = 1) (hs2 : p + 10 ≤ l.length) (hkb : c0.toNat < 1 ∨ 6 < c0.toNat) :
  Calls Tryz.prog 34 #[.slice (some ⟨xb, xo, none⟩) l.length cap, .int .i64 (p : Nat)] w (OpAtA w l p) := by
 have HNo : Hid (raP (l.drop p) = none) := raP_none3 hs hg0 hkb
 obtain ⟨wx, Hwx⟩ : ∃ x, Hid (x = w.alloc (.cells (oppZ.v (.slice none 0 0)) 54)) := ⟨_, rfl⟩
 have HB : Hid (Below w.heap.size w wx) := by rw [Hwx.out]; exact below_new w _
 have HX : Hid (Blk wx w.heap.size (oppZ.v (.slice none 0 0)) 54) := by rw [Hwx.out]; exact Blk.new _ _ _
 have HT : Hid (BAt w (some ⟨xb, xo, none⟩) l) := h
 obtain ⟨N, HN⟩ : ∃ N, Hid (N = l.length) := ⟨_, rfl⟩
 clear h
 rw [← HN.out] at hl hcap hp hs hs2 ⊢
 go_enter Tryz.func34, Tryz.ntmps34
 go_upto_region 1 with fail
 change Code.wp _ _ _ _ (w.alloc (.cells (oppZ.v (.slice none 0 0)) 54))
 rw [← Hwx.out]
 clear Hwx
 iterate 8 go_step
 refine wp_store_op (c' := Opp.v oppZ (.slice none 0 0)) rfl rfl rfl rfl rfl rfl (v_oneN _ _ _ _) ?_
 obtain ⟨w2, Hw2⟩ : ∃ x, Hid (x = wx.alloc (.cells (Opp.v oppZ (.slice none 0 0)) 54)) := ⟨_, rfl⟩
 have hsz1 : w.heap.size + 1 ≤ wx.heap.size := by have := HX.out.lt; omega
 have HI2 : Hid (DI w w.heap.size wx.heap.size (Opp.v oppZ (.slice none 0 0)) (oppZ.v (.slice none 0 0)) w2) := by
  rw [Hw2.out]
  exact ⟨HB.out.trans ((below_new _ _).mono HB.out.size), Blk.new _ _ _, HX.out.alloc _⟩
 rw [← Hw2.out]
 obtain ⟨g3, Hg3⟩ : ∃ x, Hid (x = wx.heap.size) := ⟨_, rfl⟩
 rw [← Hg3.out] at HI2 hsz1 ⊢
 obtain ⟨g2, Hg2⟩ : ∃ x, Hid (x = w.heap.size) := ⟨_, rfl⟩
 have h3w : w.heap.size ≤ g3 := by omega
 have h23 : g2 ≠ g3 := by rw [Hg2.out]; omega
 have h2w : w.heap.size ≤ g2 := by rw [Hg2.out]; exact Nat.le_refl _
 rw [← Hg2.out] at HI2 ⊢
 clear Hw2 Hg3 HX hsz1 HB Hg2
 obtain ⟨b0, o0, e0, hc0⟩ := (HT.out.below (HI2.out.bl)).at p (by rw [← HN.out]; omega)
 obtain ⟨rfl, rfl⟩ : xb = b0 ∧ xo = o0 := by simpa using e0
 rw [show l[p]'(by rw [← HN.out]; omega) = c0 from Option.some.inj ((List.getElem?_eq_getElem (by rw [← HN.out]; omega)).symm.trans hg0)] at hc0
 have hcl0 := byte_le c0
 have HT2 : Hid (BAt w2 (some ⟨xb, xo, none⟩) l) := HT.out.below HI2.out.bl
 have x0 : w2.cell? ⟨g3, 0, none⟩ = some (.int .i64 0) := HI2.out.k3.cell 0 rfl
 have f0 := HI2.out.k3.open 0
 obtain ⟨kd, Hkd⟩ : ∃ x, Hid (x = c0.toNat) := ⟨_, rfl⟩
 rw [← Hkd.out] at hc0 hcl0
 obtain ⟨w4, Hw4⟩ : ∃ x, Hid (x = putC w2 g3 0 [.int .i64 (kd : Nat)]) := ⟨_, rfl⟩
 have HI4 : Hid (DI w g2 g3 (Opp.v ⟨(kd : Nat), nodeZ, svcZ, chkZ, false, 0⟩ (.slice none 0 0)) (oppZ.v (.slice none 0 0)) w4) := by rw [Hw4.out]; exact HI2.out.put h3w h23 [.int .i64 (kd : Nat)] 0 rfl (Nat.le_of_ble_eq_true rfl)
 clear e0 HI2 HT2
 go_upto_region 5 with fail
 change Code.wp _ _ _ _ (putC w2 g3 0 [.int .i64 (kd : Nat)])
 rw [← Hw4.out]
 clear Hw4 x0 f0 hc0
 obtain ⟨b1, o1, e1, hc1⟩ := (HT.out.below (HI4.out.bl)).at (p + 1) (by rw [← HN.out]; omega)
 obtain ⟨rfl, rfl⟩ : xb = b1 ∧ xo = o1 := by simpa using e1
 rw [show l[p + 1]'(by rw [← HN.out]; omega) = c1 from Option.some.inj ((List.getElem?_eq_getElem (by rw [← HN.out]; omega)).symm.trans hg1)] at hc1
 have hcq : ((c1.toNat : Int) == 1) = true := by
  rw [hcs]; rfl
 have hcl1 := byte_le c1
 have x19 : w4.cell? ⟨g3, 19, none⟩ = some (.bool false) := HI4.out.k3.cell 19 rfl
 have f19 := HI4.out.k3.open 19
 obtain ⟨w5, Hw5⟩ : ∃ x, Hid (x = putC w4 g3 19 [.bool true]) := ⟨_, rfl⟩
 have HI5 : Hid (DI w g2 g3 (Opp.v ⟨(kd : Nat), nodeZ, svcZ, chkZ, true, 0⟩ (.slice none 0 0)) (oppZ.v (.slice none 0 0)) w5) := by rw [Hw5.out]; exact HI4.out.put h3w h23 [.bool true] 19 rfl (Nat.le_of_ble_eq_true rfl)
 clear e1 HI4
 go_upto_region 6 with fail
 change Code.wp _ _ _ _ (putC w4 g3 19 [.bool true])
 rw [← Hw5.out]
 clear Hw5 x19 f19 hc1 hcq hcl1
 have x19 : w5.cell? ⟨g3, 19, none⟩ = some (.bool true) := HI5.out.k3.cell 19 rfl
 obtain ⟨pw, Hpw⟩ : ∃ x, Hid (x = (l.drop (p + 2)).take 8) := ⟨_, rfl⟩
 have hpl : pw.length = 8 := by rw [Hpw.out, List.length_take, List.length_drop, ← HN.out]; omega
 go_wp2
 go_loopw [8, 51] (fun _ i wr => ∃ k : Nat, k ≤ 8 ∧ i = .int .i64 k ∧ Hid (DI w g2 g3 (Opp.v ⟨(kd : Nat), nodeZ, svcZ, chkZ, true, (unbig (pw.take k) : Nat)⟩ (.slice none 0 0)) (oppZ.v (.slice none 0 0)) wr)) (fun _ i _ => 8 - (intOf i).toNat)
 case atStart => exact ⟨0, Nat.zero_le _, rfl, HI5⟩
 case round =>
  obtain ⟨k, hk, rfl, HI⟩ := hrel
  clear HI5 x19
  obtain ⟨t, Ht⟩ : ∃ t, Hid (t = unbig (pw.take k)) := ⟨_, rfl⟩
  rw [← Ht.out] at HI
  by_cases hlt : k < 8
  ·have ht : t < 72057594037927936 := by
    have h1 := unbig_lt (pw.take k).length (pw.take k) rfl
    rw [← Ht.out] at h1
    have h2 : (pw.take k).length ≤ 7 := by rw [List.length_take]; omega
    exact Nat.lt_of_lt_of_le h1 (Nat.le_trans (Nat.pow_le_pow_right (by decide) h2) (by decide))
   obtain ⟨b2, o2, e2, hc2⟩ := (HT.out.below (HI.out.bl)).at (p + 2 + k) (by rw [← HN.out]; omega)
   obtain ⟨rfl, rfl⟩ : xb = b2 ∧ xo = o2 := by simpa using e2
   have hq2 : p + 2 + k < l.length := by rw [← HN.out]; omega
   obtain ⟨c, Hc⟩ : ∃ c : UInt8, Hid (c = l[p + 2 + k]'hq2) := ⟨_, rfl⟩
   rw [← Hc.out, ← Nat.add_assoc xo] at hc2
   have hcl := byte_le c
   have HNx : Hid (unbig (pw.take (k + 1)) = t * 256 + c.toNat) := by
    have hpk : pw[k]'(by omega) = c := by
     have h1 : pw[k]? = l[p + 2 + k]? := by rw [Hpw.out, List.getElem?_take_of_lt hlt, List.getElem?_drop]
     rw [List.getElem?_eq_getElem (by omega), List.getElem?_eq_getElem (by rw [← HN.out]; omega)] at h1
     rw [Hc.out]
     exact Option.some.inj h1
    show _ = _
    rw [list_take_snoc pw k (by omega), unbig_snoc, ← Ht.out, hpk]
   have x20 : wr.cell? ⟨g3, 20, none⟩ = some (.int .u64 (t : Nat)) := HI.out.k3.cell 20 rfl
   have f20 := HI.out.k3.open 20
   obtain ⟨w6, Hw6⟩ : ∃ x, Hid (x = putC wr g3 20 [.int .u64 ((t * 256 + c.toNat : Nat) : Int)]) := ⟨_, rfl⟩
   have HI6 : Hid (DI w g2 g3 (Opp.v ⟨(kd : Nat), nodeZ, svcZ, chkZ, true, (unbig (pw.take (k + 1)) : Nat)⟩ (.slice none 0 0)) (oppZ.v (.slice none 0 0)) w6) := by rw [Hw6.out, HNx.out]; exact HI.out.put h3w h23 [.int .u64 ((t * 256 + c.toNat : Nat) : Int)] 20 rfl (Nat.le_of_ble_eq_true rfl)
   have hpc : ((t * 256 + c.toNat : Nat) : Int) = (t : Int) * 256 + (c.toNat : Int) := by omega
   rw [hpc] at Hw6
   clear e2 Ht Hc HNx HI hpc hq2
   go_upto_region 14 with fail
   change Code.wp _ _ _ _ (putC wr g3 20 [.int .u64 ((t : Int) * 256 + (c.toNat : Int))])
   rw [← Hw6.out]
   clear Hw6 x20 f20 hc2
   go_wp2
   go_roundw
   case rel => exact ⟨k + 1, by omega, by go_num, HI6⟩
   case measure => simp [intOf]; omega
  ·have hk8 : k = 8 := by omega
   subst hk8
   have HWn : Hid (t = unbig ((l.drop (p + 2)).take 8)) := by
    show _ = _
    rw [Ht.out, Hpw.out, List.take_take]
    rfl
   clear Ht Hpw hpl
   go_upto_region 17 with fail
   change Code.wp _ _ _ _ (wr.alloc (.cells #[.int .i64 0, .int .i64 2, .int .i64 3, .int .i64 3, .int .i64 1, .int .i64 2, .int .i64 2] 107))
   obtain ⟨w7, Hw7⟩ : ∃ x, Hid (x = wr.alloc (.cells #[.int .i64 0, .int .i64 2, .int .i64 3, .int .i64 3, .int .i64 1, .int .i64 2, .int .i64 2] 107)) := ⟨_, rfl⟩
   have HI7 : Hid (DI w g2 g3 (Opp.v ⟨(kd : Nat), nodeZ, svcZ, chkZ, true, (t : Nat)⟩ (.slice none 0 0)) (oppZ.v (.slice none 0 0)) w7) := by rw [Hw7.out]; exact HI.out.below (below_new _ _)
   have HM : Hid (Blk w7 wr.heap.size #[.int .i64 0, .int .i64 2, .int .i64 3, .int .i64 3, .int .i64 1, .int .i64 2, .int .i64 2] 107) := by rw [Hw7.out]; exact Blk.new _ _ _
   rw [← Hw7.out]
   clear Hw7 HI
   have x0 : w7.cell? ⟨g3, 0, none⟩ = some (.int .i64 (kd : Nat)) := HI7.out.k3.cell 0 rfl
   have hkb' : kd < 1 ∨ 6 < kd := by rw [Hkd.out]; exact hkb
   clear hkb Hkd
   rcases hkb' with hkb | hkb
   ·obtain rfl : kd = 0 := by omega
    have HNone : Hid (raP (l.drop p) = none) := HNo
    obtain ⟨CC, HCC⟩ : ∃ x : Array Value, Hid (x = Opp.v ⟨(0 : Nat), nodeZ, svcZ, chkZ, true, (t : Nat)⟩ (.slice none 0 0)) := ⟨_, rfl⟩
    have HK3 : Hid (Blk w7 g3 CC 54) := by rw [HCC.out]; exact HI7.out.k3
    have HK2 : Hid (Blk w7 g2 (oppZ.v (.slice none 0 0)) 54) := HI7.out.k2
    have HS : Hid (CC.size = 21) := by rw [HCC.out]; rfl
    have HONE : Hid (CC.all (·.oneCell') = true) := by rw [HCC.out]; exact v_oneN _ _ _ _
    have HLd : Hid ((loadVar 54 ⟨g2, 0, none⟩).run Tryz.prog (w7.setRow g2 CC) = .ok (.agg CC) (w7.setRow g2 CC)) := load_op (blk_setRow HK2.out _) HS.out
    have HFin : Hid (OpAtA w l p (.returned (.tuple #[.agg CC, .int .i64 (-1)])) (w7.setRow g2 CC)) := ⟨below_setRow HI7.out.bl h2w _, .inr ⟨HNone.out, _, HS.out, HONE.out, rfl⟩⟩
    clear HI7 HNone HCC
    go_upto_region 18 with fail
    iterate 2 go_step
    refine wp_get_op rfl HK3.out rfl HS.out ?_
    iterate 2 go_step
    refine wp_put_op rfl HK2.out rfl rfl rfl HS.out HONE.out ?_
    go_wp2
    exact ret_box45 (g := g2) (w := (w7.setRow g2 CC)) rfl rfl rfl rfl HLd.out HFin.out
   ·have n1 : ¬ (kd : Int) < 1 := by omega
    have n6 : 6 < (kd : Int) := by omega
    have HNone : Hid (raP (l.drop p) = none) := HNo
    obtain ⟨CC, HCC⟩ : ∃ x : Array Value, Hid (x = Opp.v ⟨(kd : Nat), nodeZ, svcZ, chkZ, true, (t : Nat)⟩ (.slice none 0 0)) := ⟨_, rfl⟩
    have HK3 : Hid (Blk w7 g3 CC 54) := by rw [HCC.out]; exact HI7.out.k3
    have HK2 : Hid (Blk w7 g2 (oppZ.v (.slice none 0 0)) 54) := HI7.out.k2
    have HS : Hid (CC.size = 21) := by rw [HCC.out]; rfl
    have HONE : Hid (CC.all (·.oneCell') = true) := by rw [HCC.out]; exact v_oneN _ _ _ _
    have HLd : Hid ((loadVar 54 ⟨g2, 0, none⟩).run Tryz.prog (w7.setRow g2 CC) = .ok (.agg CC) (w7.setRow g2 CC)) := load_op (blk_setRow HK2.out _) HS.out
    have HFin : Hid (OpAtA w l p (.returned (.tuple #[.agg CC, .int .i64 (-1)])) (w7.setRow g2 CC)) := ⟨below_setRow HI7.out.bl h2w _, .inr ⟨HNone.out, _, HS.out, HONE.out, rfl⟩⟩
    clear HI7 HNone HCC
    go_upto_region 18 with fail
    iterate 2 go_step
    refine wp_get_op rfl HK3.out rfl HS.out ?_
    iterate 2 go_step
    refine wp_put_op rfl HK2.out rfl rfl rfl HS.out HONE.out ?_
    go_wp2
    exact ret_box45 (g := g2) (w := (w7.setRow g2 CC)) rfl rfl rfl rfl HLd.out HFin.out
end Go.Proofs.YtbhhjnbomhkdmaaGreatDoor
