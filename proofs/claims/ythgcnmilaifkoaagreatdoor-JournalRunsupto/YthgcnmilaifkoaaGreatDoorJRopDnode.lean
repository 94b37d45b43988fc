/- Layer 13 (journal): the document's op, dnode. -/
import Derived.Test.YthgcnmilaifkoaaGreatDoorJRopH
namespace Go.Proofs.YthgcnmilaifkoaaGreatDoor
open Go.RowKit
set_option linter.unusedVariables false

set_option maxRecDepth 100000 in
set_option maxHeartbeats 2000000 in
theorem rop_dnode_false (n : ByteArray) (x : Int) (ta : Option Addr) (tc : Nat) (w : World) (hx0 : 0 ≤ x) (hx1 : x ≤ 18446744073709551615) (h1 : n.size ≤ 63) :
  Calls Tryz.prog 50 #[.agg (Opp.v ⟨4, ⟨n, ⟨#[]⟩, 0, 0⟩, svcZ, chkZ, false, x⟩ (.slice ta 0 tc))] w fun e w' => ∃ v', e = .returned v' ∧ Own w' w.heap.size v' (opB ⟨4, ⟨n, ⟨#[]⟩, 0, 0⟩, svcZ, chkZ, false, x⟩) ∧ Below w.heap.size w w' := by
 obtain ⟨o, Ho⟩ : ∃ o, Hid (o = (⟨4, ⟨n, ⟨#[]⟩, 0, 0⟩, svcZ, chkZ, false, x⟩ : Opp)) := ⟨_, rfl⟩
 obtain ⟨TT, HTO⟩ : ∃ L : List UInt8, Hid (L = ([4, 0] : List UInt8) ++ txtsB [n]) := name_it _
 have HEO : Hid (opB ⟨4, ⟨n, ⟨#[]⟩, 0, 0⟩, svcZ, chkZ, false, x⟩ = TT) := by
  show _ = _
  rw [HTO.out]
  simp [opB, casB, bodyB, byteOf]
 rw [HEO.out, ← Ho.out]
 clear HEO
 obtain ⟨wx, Hwx⟩ : ∃ x, Hid (x = w.alloc (.cells (o.v (.slice ta 0 tc)) 47)) := ⟨_, rfl⟩
 have KA : Hid (Blk wx w.heap.size (o.v (.slice ta 0 tc)) 47) := by rw [Hwx.out]; exact Blk.new _ _ _
 rw [Ho.out] at KA
 have HBx : Hid (Below w.heap.size w wx) := by rw [Hwx.out]; exact below_new w _
 go_enter Tryz.func50, Tryz.ntmps50
 go_upto_region 1 with fail
 rw [← Hwx.out]
 clear Hwx Ho
 have c0 : wx.cell? ⟨w.heap.size, 0, none⟩ = some (.int .i64 4) := KA.out.cell 0 rfl
 have c19 : wx.cell? ⟨w.heap.size, 19, none⟩ = some (.bool false) := KA.out.cell 19 rfl
 obtain ⟨w1, Hw1⟩ : ∃ x, Hid (x = wx.alloc (.cells #[.int .u8 4, .int .u8 0] 5)) := ⟨_, rfl⟩
 have HO1 : Hid (Own w1 w.heap.size (.slice (some ⟨wx.heap.size, 0, none⟩) 2 2) [4, 0]) := by
  rw [Hw1.out]
  exact row_weak HBx.out.size (World.ownsRow_lit (size := 1) wx #[.int .u8 4, .int .u8 0] 2 (Nat.le_refl _) (by unfold maxLen; omega) rfl)
 have HB1 : Hid (Below w.heap.size w w1) := by rw [Hw1.out]; exact HBx.out.alloc HBx.out.size _
 have KA1 : Hid (Blk w1 w.heap.size (Opp.v ⟨4, ⟨n, ⟨#[]⟩, 0, 0⟩, svcZ, chkZ, false, x⟩ (.slice ta 0 tc)) 47) := by rw [Hw1.out]; exact KA.out.alloc _
 obtain ⟨g1, Hg1⟩ : ∃ x, Hid (x = wx.heap.size) := ⟨_, rfl⟩
 go_upto_region 2 with fail
 rw [← Hw1.out, ← Hg1.out]
 rw [← Hg1.out] at HO1
 clear Hw1 Hg1 KA c0 c19 HBx
 have c19 : w1.cell? ⟨w.heap.size, 19, none⟩ = some (.bool false) := KA1.out.cell 19 rfl
 obtain ⟨w4, Hw4⟩ : ∃ x, Hid (x = w1) := ⟨_, rfl⟩
 rw [← Hw4.out]
 rw [← Hw4.out] at HO1 HB1 KA1 c19
 clear Hw4
 obtain ⟨L4, HL4⟩ : ∃ L : List UInt8, Hid (L = [4, 0]) := ⟨_, rfl⟩
 have HO4 : Hid (Own w4 w.heap.size (.slice (some ⟨g1, 0, none⟩) 2 2) L4) := by rw [HL4.out]; exact HO1.out
 have HN4 : Hid (L4.length ≤ 10) := by show _ ≤ _; rw [HL4.out]; simp
 have KA4 := KA1
 have HB4 := HB1
 clear HO1 KA1 HB1
 go_upto_region 5 with fail
 clear c19
 iterate 5 go_step
 refine wp_get_part (n := 7) (l := [.string ⟨#[]⟩, .string ⟨#[]⟩, .string ⟨#[]⟩, .int .i64 0, .slice ta 0 tc, .int .u64 0, .int .u64 0]) rfl KA4.out rfl rfl Tryz.underlying41 rfl size_svc ?_
 obtain ⟨w5, Hw5⟩ : ∃ x, Hid (x = w4.alloc (.cells #[.string ⟨#[]⟩, .string ⟨#[]⟩, .string ⟨#[]⟩, .int .i64 0, .slice ta 0 tc, .int .u64 0, .int .u64 0] 41)) := ⟨_, rfl⟩
 have KS5 : Hid (Blk w5 w4.heap.size #[.string ⟨#[]⟩, .string ⟨#[]⟩, .string ⟨#[]⟩, .int .i64 0, .slice ta 0 tc, .int .u64 0, .int .u64 0] 41) := by rw [Hw5.out]; exact Blk.new _ _ _
 have KA5 : Hid (Blk w5 w.heap.size (Opp.v ⟨4, ⟨n, ⟨#[]⟩, 0, 0⟩, svcZ, chkZ, false, x⟩ (.slice ta 0 tc)) 47) := by rw [Hw5.out]; exact KA4.out.alloc _
 have HO5 : Hid (Own w5 w.heap.size (.slice (some ⟨g1, 0, none⟩) 2 2) L4) := by rw [Hw5.out]; exact HO4.out.alloc _
 have HB5 : Hid (Below w.heap.size w w5) := by rw [Hw5.out]; exact HB4.out.alloc HB4.out.size _
 obtain ⟨g5, Hg5⟩ : ∃ x, Hid (x = w4.heap.size) := ⟨_, rfl⟩
 go_upto_region 6 with fail
 rw [← Hw5.out, ← Hg5.out]
 rw [← Hg5.out] at KS5
 clear Hw5 Hg5 KA4 HO4 HB4
 iterate 5 go_step
 refine wp_get_part (n := 7) (l := [.string ⟨#[]⟩, .string ⟨#[]⟩, .string ⟨#[]⟩, .int .i64 0, .string ⟨#[]⟩, .int .u64 0, .int .u64 0]) rfl KA5.out rfl rfl Tryz.underlying45 rfl size_chk ?_
 obtain ⟨w6, Hw6⟩ : ∃ x, Hid (x = w5.alloc (.cells #[.string ⟨#[]⟩, .string ⟨#[]⟩, .string ⟨#[]⟩, .int .i64 0, .string ⟨#[]⟩, .int .u64 0, .int .u64 0] 45)) := ⟨_, rfl⟩
 have KC6 : Hid (Blk w6 w5.heap.size #[.string ⟨#[]⟩, .string ⟨#[]⟩, .string ⟨#[]⟩, .int .i64 0, .string ⟨#[]⟩, .int .u64 0, .int .u64 0] 45) := by rw [Hw6.out]; exact Blk.new _ _ _
 have KS6 : Hid (Blk w6 g5 #[.string ⟨#[]⟩, .string ⟨#[]⟩, .string ⟨#[]⟩, .int .i64 0, .slice ta 0 tc, .int .u64 0, .int .u64 0] 41) := by rw [Hw6.out]; exact KS5.out.alloc _
 have KA6 : Hid (Blk w6 w.heap.size (Opp.v ⟨4, ⟨n, ⟨#[]⟩, 0, 0⟩, svcZ, chkZ, false, x⟩ (.slice ta 0 tc)) 47) := by rw [Hw6.out]; exact KA5.out.alloc _
 have HO6 : Hid (Own w6 w.heap.size (.slice (some ⟨g1, 0, none⟩) 2 2) L4) := by rw [Hw6.out]; exact HO5.out.alloc _
 have HB6 : Hid (Below w.heap.size w w6) := by rw [Hw6.out]; exact HB5.out.alloc HB5.out.size _
 obtain ⟨g6, Hg6⟩ : ∃ x, Hid (x = w5.heap.size) := ⟨_, rfl⟩
 go_upto_region 7 with fail
 rw [← Hw6.out, ← Hg6.out]
 rw [← Hg6.out] at KC6
 clear Hw6 Hg6 KA5 KS5 HO5 HB5
 have c0 : w6.cell? ⟨w.heap.size, 0, none⟩ = some (.int .i64 4) := KA6.out.cell 0 rfl
 have ca1_6 : w6.cell? ⟨w.heap.size, 1, none⟩ = some (.string n) := KA6.out.cell 1 rfl
 go_wp2_with fail
 refine (rtexts_lit [n] _ 1 1 _ w6 rfl rfl rfl (by omega) (by intro y hy; simp at hy; subst hy; omega)).mono ?_
 have HTT : Hid ((txtsB [n]).length ≤ 64) := by show _ ≤ _; simp [txtsB, txtB_length]; omega
 rintro e w7 ⟨vt, rfl, hot, hbt⟩
 obtain ⟨ab, kb, rfl⟩ := hot.shape
 have KA7 : Hid (Blk w7 w.heap.size (Opp.v ⟨4, ⟨n, ⟨#[]⟩, 0, 0⟩, svcZ, chkZ, false, x⟩ (.slice ta 0 tc)) 47) := KA6.out.below hbt
 have KS7 : Hid (Blk w7 g5 #[.string ⟨#[]⟩, .string ⟨#[]⟩, .string ⟨#[]⟩, .int .i64 0, .slice ta 0 tc, .int .u64 0, .int .u64 0] 41) := KS6.out.below hbt
 have KC7 : Hid (Blk w7 g6 #[.string ⟨#[]⟩, .string ⟨#[]⟩, .string ⟨#[]⟩, .int .i64 0, .string ⟨#[]⟩, .int .u64 0, .int .u64 0] 45) := KC6.out.below hbt
 have HO7 : Hid (Own w7 w.heap.size (.slice (some ⟨g1, 0, none⟩) 2 2) L4) := HO6.out.below hbt
 have HB7 : Hid (Below w.heap.size w w7) := HB6.out.trans (hbt.mono HB6.out.size)
 have HAT : Hid (CellsAt w7 ab (bs (txtsB [n]))) := hot.bytes
 obtain ⟨tn, Htn⟩ : ∃ x, Hid (x = (txtsB [n]).length) := ⟨_, rfl⟩
 have htn : tn ≤ 64 := by rw [Htn.out]; exact HTT.out
 have HLT : Hid ((bs (txtsB [n])).length = tn * 1) := by show _ = _; rw [bs_length, ← Htn.out, Nat.mul_one]
 have hln := HN4.out
 rw [← Htn.out]
 clear hbt hot HTT
 go_wp2_with (at_builtin; refine append_src _ rfl (.tmp 95) (.tmp 100) 50 5 (.int .u8 0) 1 1 Tryz.underlying50 info_u8 rfl (by decide) rfl w.heap.size _ L4.length (bs L4) rfl HO7.out ab tn kb (bs (txtsB [n])) rfl HLT.out HAT.out (bs_one _) (by unfold maxLen; omega) (by omega) HB7.out.size ?_)
 intro v8 w8 hoY hgY
 have KA8 : Hid (Blk w8 w.heap.size (Opp.v ⟨4, ⟨n, ⟨#[]⟩, 0, 0⟩, svcZ, chkZ, false, x⟩ (.slice ta 0 tc)) 47) := row_grewB KA7.out HO7.out hgY (by decide)
 have KS8 : Hid (Blk w8 g5 #[.string ⟨#[]⟩, .string ⟨#[]⟩, .string ⟨#[]⟩, .int .i64 0, .slice ta 0 tc, .int .u64 0, .int .u64 0] 41) := row_grewB KS7.out HO7.out hgY (by decide)
 have KC8 : Hid (Blk w8 g6 #[.string ⟨#[]⟩, .string ⟨#[]⟩, .string ⟨#[]⟩, .int .i64 0, .string ⟨#[]⟩, .int .u64 0, .int .u64 0] 45) := row_grewB KC7.out HO7.out hgY (by decide)
 have HB8 : Hid (Below w.heap.size w w8) := HB7.out.trans (hgY.toBelow HB7.out.size fun q hq => (HO7.out.lt q hq).1)
 obtain ⟨L8, HL8⟩ : ∃ L : List UInt8, Hid (L = L4 ++ txtsB [n]) := name_it _
 have HO8 : Hid (Own w8 w.heap.size v8 L8) := by
  rw [HL8.out]
  unfold Own
  rw [bs_append, List.length_append, ← Htn.out]
  exact hoY
 have HN8 : Hid (L8.length ≤ 74) := by show _ ≤ _; rw [HL8.out, List.length_append, ← Htn.out]; omega
 clear hoY hgY HO7 HB7 HAT HLT Htn htn hln KA7 KS7 KC7
 have HFL : Hid (TT = L8) := by
  show _ = _
  rw [HTO.out, HL8.out, HL4.out]
 go_wp2
 go_ret
 exact ⟨_, rfl, by rw [HFL.out]; exact HO8.out, HB8.out⟩

set_option maxRecDepth 100000 in
set_option maxHeartbeats 2000000 in
theorem rop_dnode_true (n : ByteArray) (x : Int) (ta : Option Addr) (tc : Nat) (w : World) (hx0 : 0 ≤ x) (hx1 : x ≤ 18446744073709551615) (h1 : n.size ≤ 63) :
  Calls Tryz.prog 50 #[.agg (Opp.v ⟨4, ⟨n, ⟨#[]⟩, 0, 0⟩, svcZ, chkZ, true, x⟩ (.slice ta 0 tc))] w fun e w' => ∃ v', e = .returned v' ∧ Own w' w.heap.size v' (opB ⟨4, ⟨n, ⟨#[]⟩, 0, 0⟩, svcZ, chkZ, true, x⟩) ∧ Below w.heap.size w w' := by
 obtain ⟨o, Ho⟩ : ∃ o, Hid (o = (⟨4, ⟨n, ⟨#[]⟩, 0, 0⟩, svcZ, chkZ, true, x⟩ : Opp)) := ⟨_, rfl⟩
 obtain ⟨TT, HTO⟩ : ∃ L : List UInt8, Hid (L = ([4, 1] ++ big 8 x : List UInt8) ++ txtsB [n]) := name_it _
 have HEO : Hid (opB ⟨4, ⟨n, ⟨#[]⟩, 0, 0⟩, svcZ, chkZ, true, x⟩ = TT) := by
  show _ = _
  rw [HTO.out]
  simp [opB, casB, bodyB, byteOf]
 rw [HEO.out, ← Ho.out]
 clear HEO
 obtain ⟨wx, Hwx⟩ : ∃ x, Hid (x = w.alloc (.cells (o.v (.slice ta 0 tc)) 47)) := ⟨_, rfl⟩
 have KA : Hid (Blk wx w.heap.size (o.v (.slice ta 0 tc)) 47) := by rw [Hwx.out]; exact Blk.new _ _ _
 rw [Ho.out] at KA
 have HBx : Hid (Below w.heap.size w wx) := by rw [Hwx.out]; exact below_new w _
 go_enter Tryz.func50, Tryz.ntmps50
 go_upto_region 1 with fail
 rw [← Hwx.out]
 clear Hwx Ho
 have c0 : wx.cell? ⟨w.heap.size, 0, none⟩ = some (.int .i64 4) := KA.out.cell 0 rfl
 have c19 : wx.cell? ⟨w.heap.size, 19, none⟩ = some (.bool true) := KA.out.cell 19 rfl
 obtain ⟨w1, Hw1⟩ : ∃ x, Hid (x = wx.alloc (.cells #[.int .u8 4, .int .u8 0] 5)) := ⟨_, rfl⟩
 have HO1 : Hid (Own w1 w.heap.size (.slice (some ⟨wx.heap.size, 0, none⟩) 2 2) [4, 0]) := by
  rw [Hw1.out]
  exact row_weak HBx.out.size (World.ownsRow_lit (size := 1) wx #[.int .u8 4, .int .u8 0] 2 (Nat.le_refl _) (by unfold maxLen; omega) rfl)
 have HB1 : Hid (Below w.heap.size w w1) := by rw [Hw1.out]; exact HBx.out.alloc HBx.out.size _
 have KA1 : Hid (Blk w1 w.heap.size (Opp.v ⟨4, ⟨n, ⟨#[]⟩, 0, 0⟩, svcZ, chkZ, true, x⟩ (.slice ta 0 tc)) 47) := by rw [Hw1.out]; exact KA.out.alloc _
 obtain ⟨g1, Hg1⟩ : ∃ x, Hid (x = wx.heap.size) := ⟨_, rfl⟩
 go_upto_region 2 with fail
 rw [← Hw1.out, ← Hg1.out]
 rw [← Hg1.out] at HO1
 clear Hw1 Hg1 KA c0 c19 HBx
 have c19 : w1.cell? ⟨w.heap.size, 19, none⟩ = some (.bool true) := KA1.out.cell 19 rfl
 obtain ⟨z0, f0⟩ := HO1.out.at rfl 1 (by decide)
 obtain ⟨w2, Hw2⟩ : ∃ x, Hid (x = w1.setCell ⟨g1, 1, none⟩ (.int .u8 1)) := ⟨_, rfl⟩
 have HO2 : Hid (Own w2 w.heap.size (.slice (some ⟨g1, 0, none⟩) 2 2) [4, 1]) := by rw [Hw2.out]; exact HO1.out.stored rfl 1 1
 have hg1 := (HO1.out.lt g1 rfl).1
 have HB2 : Hid (Below w.heap.size w w2) := by rw [Hw2.out]; exact HB1.out.setCell (p := ⟨g1, 1, none⟩) hg1 _
 have hne : w.heap.size ≠ g1 := blk_ne KA1.out HO1.out (by decide)
 have KA2 : Hid (Blk w2 w.heap.size (Opp.v ⟨4, ⟨n, ⟨#[]⟩, 0, 0⟩, svcZ, chkZ, true, x⟩ (.slice ta 0 tc)) 47) := by rw [Hw2.out]; exact KA1.out.off (a := ⟨g1, 1, none⟩) hne _
 go_upto_region 4 with fail
 rw [← Hw2.out]
 clear Hw2 z0 f0 hg1 hne KA1 HB1 HO1 c19
 have c20 : w2.cell? ⟨w.heap.size, 20, none⟩ = some (.int .u64 x) := KA2.out.cell 20 rfl
 go_wp2_with fail
 refine (rbig_calls x 8 w2 hx0 hx1 (by omega)).mono ?_
 rintro e w3 ⟨cb, rfl, hob, hbb⟩
 have HO3 : Hid (Own w3 w.heap.size (.slice (some ⟨g1, 0, none⟩) 2 2) [4, 1]) := HO2.out.below hbb
 have HB3 : Hid (Below w.heap.size w w3) := HB2.out.trans (hbb.mono HB2.out.size)
 have KA3 : Hid (Blk w3 w.heap.size (Opp.v ⟨4, ⟨n, ⟨#[]⟩, 0, 0⟩, svcZ, chkZ, true, x⟩ (.slice ta 0 tc)) 47) := KA2.out.below hbb
 have HA3 : Hid (CellsAt w3 (some ⟨w2.heap.size, 0, none⟩) (bs (big 8 x))) := hob.bytes
 have HL3 : Hid ((bs (big 8 x)).length = 8 * 1) := by show _ = _; rw [bs_length, big_length]
 clear hbb hob c20 HO2 HB2 KA2
 go_wp2_with (at_builtin; refine append_src _ rfl (.tmp 14) (.tmp 17) 50 5 (.int .u8 0) 1 1 Tryz.underlying50 info_u8 rfl (by decide) rfl w.heap.size _ 2 (bs [4, 1]) rfl HO3.out (some ⟨w2.heap.size, 0, none⟩) 8 cb (bs (big 8 x)) rfl HL3.out HA3.out (bs_one _) (by unfold maxLen; omega) (by omega) HB3.out.size ?_)
 intro v4 w4 ho4 hg4
 have KA4 : Hid (Blk w4 w.heap.size (Opp.v ⟨4, ⟨n, ⟨#[]⟩, 0, 0⟩, svcZ, chkZ, true, x⟩ (.slice ta 0 tc)) 47) := row_grewB KA3.out HO3.out hg4 (by decide)
 have HB4 : Hid (Below w.heap.size w w4) := HB3.out.trans (hg4.toBelow HB3.out.size fun q hq => (HO3.out.lt q hq).1)
 obtain ⟨L4, HL4⟩ : ∃ L : List UInt8, Hid (L = [4, 1] ++ big 8 x) := name_it _
 have HO4 : Hid (Own w4 w.heap.size v4 L4) := by
  rw [HL4.out]
  unfold Own
  rw [bs_append, List.length_append, big_length]
  exact ho4
 have HN4 : Hid (L4.length ≤ 10) := by show _ ≤ _; rw [HL4.out]; simp [big_length]
 clear ho4 hg4 HO3 HB3 KA3 HA3 HL3
 go_upto_region 5 with fail
 iterate 5 go_step
 refine wp_get_part (n := 7) (l := [.string ⟨#[]⟩, .string ⟨#[]⟩, .string ⟨#[]⟩, .int .i64 0, .slice ta 0 tc, .int .u64 0, .int .u64 0]) rfl KA4.out rfl rfl Tryz.underlying41 rfl size_svc ?_
 obtain ⟨w5, Hw5⟩ : ∃ x, Hid (x = w4.alloc (.cells #[.string ⟨#[]⟩, .string ⟨#[]⟩, .string ⟨#[]⟩, .int .i64 0, .slice ta 0 tc, .int .u64 0, .int .u64 0] 41)) := ⟨_, rfl⟩
 have KS5 : Hid (Blk w5 w4.heap.size #[.string ⟨#[]⟩, .string ⟨#[]⟩, .string ⟨#[]⟩, .int .i64 0, .slice ta 0 tc, .int .u64 0, .int .u64 0] 41) := by rw [Hw5.out]; exact Blk.new _ _ _
 have KA5 : Hid (Blk w5 w.heap.size (Opp.v ⟨4, ⟨n, ⟨#[]⟩, 0, 0⟩, svcZ, chkZ, true, x⟩ (.slice ta 0 tc)) 47) := by rw [Hw5.out]; exact KA4.out.alloc _
 have HO5 : Hid (Own w5 w.heap.size v4 L4) := by rw [Hw5.out]; exact HO4.out.alloc _
 have HB5 : Hid (Below w.heap.size w w5) := by rw [Hw5.out]; exact HB4.out.alloc HB4.out.size _
 obtain ⟨g5, Hg5⟩ : ∃ x, Hid (x = w4.heap.size) := ⟨_, rfl⟩
 go_upto_region 6 with fail
 rw [← Hw5.out, ← Hg5.out]
 rw [← Hg5.out] at KS5
 clear Hw5 Hg5 KA4 HO4 HB4
 iterate 5 go_step
 refine wp_get_part (n := 7) (l := [.string ⟨#[]⟩, .string ⟨#[]⟩, .string ⟨#[]⟩, .int .i64 0, .string ⟨#[]⟩, .int .u64 0, .int .u64 0]) rfl KA5.out rfl rfl Tryz.underlying45 rfl size_chk ?_
 obtain ⟨w6, Hw6⟩ : ∃ x, Hid (x = w5.alloc (.cells #[.string ⟨#[]⟩, .string ⟨#[]⟩, .string ⟨#[]⟩, .int .i64 0, .string ⟨#[]⟩, .int .u64 0, .int .u64 0] 45)) := ⟨_, rfl⟩
 have KC6 : Hid (Blk w6 w5.heap.size #[.string ⟨#[]⟩, .string ⟨#[]⟩, .string ⟨#[]⟩, .int .i64 0, .string ⟨#[]⟩, .int .u64 0, .int .u64 0] 45) := by rw [Hw6.out]; exact Blk.new _ _ _
 have KS6 : Hid (Blk w6 g5 #[.string ⟨#[]⟩, .string ⟨#[]⟩, .string ⟨#[]⟩, .int .i64 0, .slice ta 0 tc, .int .u64 0, .int .u64 0] 41) := by rw [Hw6.out]; exact KS5.out.alloc _
 have KA6 : Hid (Blk w6 w.heap.size (Opp.v ⟨4, ⟨n, ⟨#[]⟩, 0, 0⟩, svcZ, chkZ, true, x⟩ (.slice ta 0 tc)) 47) := by rw [Hw6.out]; exact KA5.out.alloc _
 have HO6 : Hid (Own w6 w.heap.size v4 L4) := by rw [Hw6.out]; exact HO5.out.alloc _
 have HB6 : Hid (Below w.heap.size w w6) := by rw [Hw6.out]; exact HB5.out.alloc HB5.out.size _
 obtain ⟨g6, Hg6⟩ : ∃ x, Hid (x = w5.heap.size) := ⟨_, rfl⟩
 go_upto_region 7 with fail
 rw [← Hw6.out, ← Hg6.out]
 rw [← Hg6.out] at KC6
 clear Hw6 Hg6 KA5 KS5 HO5 HB5
 have c0 : w6.cell? ⟨w.heap.size, 0, none⟩ = some (.int .i64 4) := KA6.out.cell 0 rfl
 have ca1_6 : w6.cell? ⟨w.heap.size, 1, none⟩ = some (.string n) := KA6.out.cell 1 rfl
 go_wp2_with fail
 refine (rtexts_lit [n] _ 1 1 _ w6 rfl rfl rfl (by omega) (by intro y hy; simp at hy; subst hy; omega)).mono ?_
 have HTT : Hid ((txtsB [n]).length ≤ 64) := by show _ ≤ _; simp [txtsB, txtB_length]; omega
 rintro e w7 ⟨vt, rfl, hot, hbt⟩
 obtain ⟨ab, kb, rfl⟩ := hot.shape
 have KA7 : Hid (Blk w7 w.heap.size (Opp.v ⟨4, ⟨n, ⟨#[]⟩, 0, 0⟩, svcZ, chkZ, true, x⟩ (.slice ta 0 tc)) 47) := KA6.out.below hbt
 have KS7 : Hid (Blk w7 g5 #[.string ⟨#[]⟩, .string ⟨#[]⟩, .string ⟨#[]⟩, .int .i64 0, .slice ta 0 tc, .int .u64 0, .int .u64 0] 41) := KS6.out.below hbt
 have KC7 : Hid (Blk w7 g6 #[.string ⟨#[]⟩, .string ⟨#[]⟩, .string ⟨#[]⟩, .int .i64 0, .string ⟨#[]⟩, .int .u64 0, .int .u64 0] 45) := KC6.out.below hbt
 have HO7 : Hid (Own w7 w.heap.size v4 L4) := HO6.out.below hbt
 have HB7 : Hid (Below w.heap.size w w7) := HB6.out.trans (hbt.mono HB6.out.size)
 have HAT : Hid (CellsAt w7 ab (bs (txtsB [n]))) := hot.bytes
 obtain ⟨tn, Htn⟩ : ∃ x, Hid (x = (txtsB [n]).length) := ⟨_, rfl⟩
 have htn : tn ≤ 64 := by rw [Htn.out]; exact HTT.out
 have HLT : Hid ((bs (txtsB [n])).length = tn * 1) := by show _ = _; rw [bs_length, ← Htn.out, Nat.mul_one]
 have hln := HN4.out
 rw [← Htn.out]
 clear hbt hot HTT
 go_wp2_with (at_builtin; refine append_src _ rfl (.tmp 95) (.tmp 100) 50 5 (.int .u8 0) 1 1 Tryz.underlying50 info_u8 rfl (by decide) rfl w.heap.size _ L4.length (bs L4) rfl HO7.out ab tn kb (bs (txtsB [n])) rfl HLT.out HAT.out (bs_one _) (by unfold maxLen; omega) (by omega) HB7.out.size ?_)
 intro v8 w8 hoY hgY
 have KA8 : Hid (Blk w8 w.heap.size (Opp.v ⟨4, ⟨n, ⟨#[]⟩, 0, 0⟩, svcZ, chkZ, true, x⟩ (.slice ta 0 tc)) 47) := row_grewB KA7.out HO7.out hgY (by decide)
 have KS8 : Hid (Blk w8 g5 #[.string ⟨#[]⟩, .string ⟨#[]⟩, .string ⟨#[]⟩, .int .i64 0, .slice ta 0 tc, .int .u64 0, .int .u64 0] 41) := row_grewB KS7.out HO7.out hgY (by decide)
 have KC8 : Hid (Blk w8 g6 #[.string ⟨#[]⟩, .string ⟨#[]⟩, .string ⟨#[]⟩, .int .i64 0, .string ⟨#[]⟩, .int .u64 0, .int .u64 0] 45) := row_grewB KC7.out HO7.out hgY (by decide)
 have HB8 : Hid (Below w.heap.size w w8) := HB7.out.trans (hgY.toBelow HB7.out.size fun q hq => (HO7.out.lt q hq).1)
 obtain ⟨L8, HL8⟩ : ∃ L : List UInt8, Hid (L = L4 ++ txtsB [n]) := name_it _
 have HO8 : Hid (Own w8 w.heap.size v8 L8) := by
  rw [HL8.out]
  unfold Own
  rw [bs_append, List.length_append, ← Htn.out]
  exact hoY
 have HN8 : Hid (L8.length ≤ 74) := by show _ ≤ _; rw [HL8.out, List.length_append, ← Htn.out]; omega
 clear hoY hgY HO7 HB7 HAT HLT Htn htn hln KA7 KS7 KC7
 have HFL : Hid (TT = L8) := by
  show _ = _
  rw [HTO.out, HL8.out, HL4.out]
 go_wp2
 go_ret
 exact ⟨_, rfl, by rw [HFL.out]; exact HO8.out, HB8.out⟩

end Go.Proofs.YthgcnmilaifkoaaGreatDoor
