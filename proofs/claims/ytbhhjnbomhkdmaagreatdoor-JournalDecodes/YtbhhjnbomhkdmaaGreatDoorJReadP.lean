import Derived.Test.YtbhhjnbomhkdmaaGreatDoorJPay
import Derived.Test.YtbhhjnbomhkdmaaGreatDoorJStep
import Derived.Test.YtbhhjnbomhkdmaaGreatDoorRcCopyS
import Derived.Test.YtbhhjnbomhkdmaaGreatDoorJEqN
import Derived.Deep.RegionHeldLaw
/- Layer 13 (journal): writeCas, writeService, writeCheck. -/
namespace Go.Proofs.YtbhhjnbomhkdmaaGreatDoor
open Go.RowKit
set_option linter.unusedVariables false

theorem bs_lit (c : UInt8) : bs [c] = [.int .u8 (c.toNat : Int)] := rfl
theorem ne_of_grew {W w5 : World} {v v5 : Value} {p : Addr} {x : Value} (hc : W.cell? p = some x) (hne : some p.block ≠ v.ownBlock) (hg : Grew W w5 v v5) : some p.block ≠ v5.ownBlock := by
 intro e
 rcases hg.place _ e.symm with h | h
 ·exact hne h.symm
 ·have := World.block_lt_of_cell? _ _ hc
  omega
set_option maxRecDepth 100000 in
set_option maxHeartbeats 2000000 in
theorem writeCas_calls (B : Nat) (v : Value) (l : List UInt8) (o : Opp) (t : Value) (w : World) (hown : Own w B v l) (hB : B ≤ w.heap.size) (hl : l.length ≤ 70368744177664) (h0 : 0 ≤ o.want) (h1 : o.want ≤ 18446744073709551615) :
    Calls Tryz.prog 68 #[v, .agg (o.v t)] w fun e w' => ∃ v', e = .returned v' ∧ Own w' B v' (l ++ casB o) ∧ Grew w w' v v' := by
  obtain ⟨wx, Hwx⟩ : ∃ x, Hid (x = w.alloc (.cells (o.v t) 54)) := ⟨_, rfl⟩
  have KA : Hid (Blk wx w.heap.size (o.v t) 54) := by rw [Hwx.out]; exact Blk.new _ _ _
  have HO : Own wx B v l := by rw [Hwx.out]; exact hown.alloc _
  have hBx : B ≤ wx.heap.size := by rw [Hwx.out, size_new]; omega
  have HG : Grew w wx v v := by rw [Hwx.out]; exact (Grew.refl _ _).alloc _
  have c19 : wx.cell? ⟨w.heap.size, 19, none⟩ = some (.bool o.cas) := KA.out.cell 19 rfl
  have c20 : wx.cell? ⟨w.heap.size, 20, none⟩ = some (.int .u64 o.want) := KA.out.cell 20 rfl
  cases hcas : o.cas with
  | false =>
    have HC : Hid (casB o = [0]) := by unfold casB; rw [hcas]; rfl
    rw [hcas] at c19
    clear hcas
    go_enter Tryz.func68, Tryz.ntmps68
    go_upto_region 1 with fail
    rw [← Hwx.out]
    clear Hwx
    go_wp2_with (at_builtin; refine append_bytes _ rfl (.tmp 8) (.tmp 9) rfl B _ _ rfl (HO.alloc _) ⟨wx.heap.size, 0, none⟩ 1 1 [0] rfl rfl (cells_new _ _ _) (by omega) (by simp; omega) ?_)
    intro v1 w1 ho1 hg1
    have hg2 := HG.trans hg1.ofAlloc
    clear hg1
    go_wp2
    go_ret
    exact ⟨_, rfl, by rw [HC.out]; exact ho1, hg2⟩
  | true =>
    have HC : Hid (casB o = 1 :: big 8 o.want) := by unfold casB; rw [hcas]; rfl
    rw [hcas] at c19
    clear hcas
    obtain ⟨wt, Hwt⟩ : ∃ x, Hid (x = o.want) := ⟨_, rfl⟩
    rw [← Hwt.out] at c20 h0 h1 HC
    have c20w : Hid (wt = o.want) := Hwt
    clear Hwt
    go_enter Tryz.func68, Tryz.ntmps68
    go_upto_region 1 with fail
    rw [← Hwx.out]
    clear Hwx
    go_upto_region 3 with fail
    have hne : some w.heap.size ≠ v.ownBlock := fun e => by have := (hown.lt _ e.symm).2; omega
    have HNE : Hid (some w.heap.size ≠ v.ownBlock) := hne
    clear hne
    have hbd : Below wx.heap.size wx wx.drew := ⟨rfl, rfl, rfl, Nat.le_refl _, fun _ _ => rfl⟩
    have hbe : Below wx.heap.size wx (wx.drew.alloc (.cells #[.int .u8 1] 5)) := hbd.alloc hbd.size _
    have HOE : Hid (Own (wx.drew.alloc (.cells #[.int .u8 1] 5)) B v l) := HO.below hbe
    have HGE : Hid (Grew w (wx.drew.alloc (.cells #[.int .u8 1] 5)) v v) := HG.below hbe
    have hBE : B ≤ (wx.drew.alloc (.cells #[.int .u8 1] 5)).heap.size := Nat.le_trans hBx hbe.size
    have HCE : Hid ((wx.drew.alloc (.cells #[.int .u8 1] 5)).cell? ⟨w.heap.size, 20, none⟩ = some (.int .u64 wt)) := (KA.out.below hbe).cell 20 (by rw [c20w.out]; rfl)
    clear hbd hbe KA HO HG hown c19
    go_region_held_law (fun W => W.cell? ⟨w.heap.size, 20, none⟩ = some (.int .u64 wt)) (first | (exact q8) | (exact q6) | go_keep)
      (first
        | (refine step_append_u8 _ (by rfl) (.tmp 11) (.tmp 12) (by rfl) B v l (by rfl) HOE.out ⟨wx.drew.heap.size, 0, none⟩ 1 1 [1] (by rfl) rfl (cells_new wx.drew [.int .u8 1] 5) (by omega) hBE ?_
           intro v5 w5 ho5 hg5
           have HO5 : Hid (Own w5 B v5 (l ++ [1])) := ho5
           have HG5 : Hid (Grew w w5 v v5) := HGE.out.trans hg5
           have q6 : w5.cell? ⟨w.heap.size, 20, none⟩ = some (.int .u64 wt) := hg5.cell HCE.out HNE.out
           have hB5 : B ≤ w5.heap.size := Nat.le_trans hBE hg5.size
           have HNE5 : Hid (some w.heap.size ≠ v5.ownBlock) := ne_of_grew HCE.out HNE.out hg5
           clear ho5 hg5)
        | (go_simp
           go_at_call 33
           refine (writeNumber_calls B v5 (l ++ [1]) wt 8 w5 HO5.out hB5 (by simp only [List.length_append, List.length_cons, List.length_nil]; omega) h0 h1 (by omega)).mono ?_
           rintro e w8 ⟨v8, rfl, ho8, hg8⟩
           have HO8 : Hid (Own w8 B v8 (l ++ [1] ++ big 8 wt)) := ho8
           have HG8 : Hid (Grew w w8 v v8) := HG5.out.trans hg8
           have q8 : w8.cell? ⟨w.heap.size, 20, none⟩ = some (.int .u64 wt) := hg8.cell q6 HNE5.out
           clear ho8 hg8
           dsimp only))
    go_wp2
    go_ret
    exact ⟨v8, rfl, by rw [HC.out]; have := HO8.out; simpa only [List.append_assoc, List.cons_append, List.nil_append] using this, HG8.out⟩

set_option maxRecDepth 100000 in
set_option maxHeartbeats 2000000 in
theorem writeService_calls (B : Nat) (v : Value) (l : List UInt8) (s : Sp) (ta : Option Addr) (tc : Nat) (w : World) (hown : Own w B v l) (hB : B ≤ w.heap.size) (hl : l.length ≤ 35184372088832) (h1 : s.node.size ≤ 63) (h2 : s.id.size ≤ 63) (h3 : s.name.size ≤ 63) (h4 : 0 ≤ s.port) (h5 : s.port ≤ 65535) (h6 : s.tags.length ≤ 16) (h7 : ∀ y ∈ s.tags, y.size ≤ 63) (hap : Apt w v ta (s.tags.map Value.string)) :
  Calls Tryz.prog 70 #[v, .agg (s.v (.slice ta s.tags.length tc))] w fun e w' => ∃ v', e = .returned v' ∧ Own w' B v' (l ++ svcB s) ∧ Grew w w' v v' := by
 obtain ⟨wx, Hwx⟩ : ∃ x, Hid (x = w.alloc (.cells (s.v (.slice ta s.tags.length tc)) 48)) := ⟨_, rfl⟩
 have KA : Hid (Blk wx w.heap.size (s.v (.slice ta s.tags.length tc)) 48) := by rw [Hwx.out]; exact Blk.new _ _ _
 have HO : Own wx B v l := by rw [Hwx.out]; exact hown.alloc _
 have hBx : B ≤ wx.heap.size := by rw [Hwx.out, size_new]; omega
 have HG : Grew w wx v v := by rw [Hwx.out]; exact (Grew.refl _ _).alloc _
 have HA : Apt wx v ta (s.tags.map Value.string) := by rw [Hwx.out]; exact hap.alloc _
 have HE : Hid (svcB s = txtsB [s.node, s.id, s.name] ++ big 2 s.port ++ [byteOf s.tags.length] ++ txtsB s.tags) := rfl
 have HL3 : Hid ((txtsB [s.node, s.id, s.name]).length ≤ 192) := by
  have := txtsB_take_le [s.node, s.id, s.name] 3 63 (by intro x hx; simp at hx; rcases hx with rfl | rfl | rfl <;> assumption)
  exact this
 have HS3 : Hid (∀ x ∈ [s.node, s.id, s.name], x.size ≤ 1048576) := by intro x hx; simp at hx; rcases hx with rfl | rfl | rfl <;> omega
 have HS4 : Hid (∀ x ∈ s.tags, x.size ≤ 1048576) := fun x hx => by have := h7 x hx; omega
 clear hown hap h1 h2 h3 h7
 have c0 : wx.cell? ⟨w.heap.size, 0, none⟩ = some (.string s.node) := KA.out.cell 0 rfl
 have c1 : wx.cell? ⟨w.heap.size, 1, none⟩ = some (.string s.id) := KA.out.cell 1 rfl
 have c2 : wx.cell? ⟨w.heap.size, 2, none⟩ = some (.string s.name) := KA.out.cell 2 rfl
 go_enter Tryz.func70, Tryz.ntmps70
 go_upto_region 1 with fail
 rw [← Hwx.out]
 clear Hwx
 go_wp2_with fail
 refine (writeTexts_lit B v l [s.node, s.id, s.name] _ 3 3 _ wx HO hBx (by omega) rfl rfl rfl (by omega) HS3.out).mono ?_
 rintro e w1 ⟨v1, rfl, ho1, hg1⟩
 have KA1 : Hid (Blk w1 w.heap.size (s.v (.slice ta s.tags.length tc)) 48) := row_grewB KA.out HO hg1 (by decide)
 have HG1 := HG.trans hg1
 have HA1 := HA.grew hg1
 have hB1 : B ≤ w1.heap.size := Nat.le_trans hBx hg1.size
 have hl1 : (l ++ txtsB [s.node, s.id, s.name]).length ≤ 35184372088832 + 192 := by have := HL3.out; simp only [List.length_append]; omega
 obtain ⟨l1, Hl1⟩ : ∃ x, Hid (x = l ++ txtsB [s.node, s.id, s.name]) := ⟨_, rfl⟩
 rw [← Hl1.out] at ho1 hl1
 clear c0 c1 c2 hg1 HO KA HG HA hBx
 have c3 : w1.cell? ⟨w.heap.size, 3, none⟩ = some (.int .i64 s.port) := KA1.out.cell 3 rfl
 go_wp2_with fail
 refine (writeNumber_calls B v1 l1 s.port 2 w1 ho1 hB1 (by omega) h4 (by omega) (by omega)).mono ?_
 rintro e w2 ⟨v2, rfl, ho2, hg2⟩
 have KA2 : Hid (Blk w2 w.heap.size (s.v (.slice ta s.tags.length tc)) 48) := row_grewB KA1.out ho1 hg2 (by decide)
 have HG2 := HG1.trans hg2
 have HA2 := HA1.grew hg2
 have hB2 : B ≤ w2.heap.size := Nat.le_trans hB1 hg2.size
 have hl2 : (l1 ++ big 2 s.port).length ≤ 35184372088832 + 194 := by simp only [List.length_append, big_length]; omega
 obtain ⟨l2, Hl2⟩ : ∃ x, Hid (x = l1 ++ big 2 s.port) := ⟨_, rfl⟩
 rw [← Hl2.out] at ho2 hl2
 clear c3 hg2 ho1 KA1 HG1 HA1 hB1
 have c4 : w2.cell? ⟨w.heap.size, 4, none⟩ = some (.slice ta s.tags.length tc) := KA2.out.cell 4 rfl
 have HN : Hid (bs [byteOf s.tags.length] = [.int .u8 (s.tags.length : Int)]) := by
  show _ = _
  rw [bs_lit, byteOf_val]
  rw [show (s.tags.length : Int) % 256 = s.tags.length by omega]
 obtain ⟨tl, Htl⟩ : ∃ x, Hid (x = s.tags.length) := ⟨_, rfl⟩
 rw [← Htl.out] at c4 HN h6 ⊢
 go_wp2_with (at_builtin; refine append_bytes _ rfl (.tmp 19) (.tmp 24) rfl B _ _ rfl (ho2.alloc _) ⟨w2.heap.size, 0, none⟩ 1 1 [byteOf tl] rfl rfl (by intro j u hj; rw [HN.out] at hj; exact cells_new _ _ _ j u hj) (by omega) (by simp; omega) ?_)
 intro v3 w3 ho3 hg3'
 have hg3 := hg3'.ofAlloc
 have KA3 : Hid (Blk w3 w.heap.size (s.v (.slice ta s.tags.length tc)) 48) := row_grewB KA2.out ho2 hg3 (by decide)
 have HG3 := HG2.trans hg3
 have HA3 := HA2.grew hg3
 have hB3 : B ≤ w3.heap.size := Nat.le_trans hB2 hg3.size
 have hl3 : (l2 ++ [byteOf tl]).length ≤ 35184372088832 + 195 := by simp only [List.length_append, List.length_cons, List.length_nil]; omega
 obtain ⟨l3, Hl3⟩ : ∃ x, Hid (x = l2 ++ [byteOf tl]) := ⟨_, rfl⟩
 rw [← Hl3.out] at ho3 hl3
 clear c4 hg3 hg3' ho2 KA2 HG2 HA2 hB2 HN
 have c4 : w3.cell? ⟨w.heap.size, 4, none⟩ = some (.slice ta tl tc) := by rw [Htl.out]; exact KA3.out.cell 4 rfl
 go_wp2_with fail
 rw [Htl.out]
 refine (writeTexts_calls B v3 l3 ta tc s.tags w3 ho3 hB3 (by omega) (by rw [← Htl.out]; omega) HS4.out HA3).mono ?_
 rintro e w4 ⟨v4, rfl, ho4, hg4⟩
 have HG4 := HG3.trans hg4
 have HF : Hid (Own w4 B v4 (l ++ svcB s)) := by
  show Own _ _ _ _
  have := ho4
  rw [Hl3.out, Hl2.out, Hl1.out, Htl.out] at this
  rw [HE.out]
  simpa only [List.append_assoc] using this
 clear hg4 ho4 ho3 KA3 HG3 HA3 hB3
 go_wp2
 go_ret
 exact ⟨_, rfl, HF.out, HG4⟩

set_option maxRecDepth 100000 in
set_option maxHeartbeats 2000000 in
theorem writeCheck_calls (B : Nat) (v : Value) (l : List UInt8) (s : Ck) (w : World) (hown : Own w B v l) (hB : B ≤ w.heap.size) (hl : l.length ≤ 35184372088832) (h1 : s.node.size ≤ 63) (h2 : s.id.size ≤ 63) (h3 : s.service.size ≤ 63) (h4 : 0 ≤ s.status) (h5 : s.status ≤ 3) (h6 : s.note.size ≤ 200) :
  Calls Tryz.prog 71 #[v, .agg s.v] w fun e w' => ∃ v', e = .returned v' ∧ Own w' B v' (l ++ chkB s) ∧ Grew w w' v v' := by
 obtain ⟨wx, Hwx⟩ : ∃ x, Hid (x = w.alloc (.cells s.v 52)) := ⟨_, rfl⟩
 have KA : Hid (Blk wx w.heap.size s.v 52) := by rw [Hwx.out]; exact Blk.new _ _ _
 have HO : Own wx B v l := by rw [Hwx.out]; exact hown.alloc _
 have hBx : B ≤ wx.heap.size := by rw [Hwx.out, size_new]; omega
 have HG : Grew w wx v v := by rw [Hwx.out]; exact (Grew.refl _ _).alloc _
 have HE : Hid (chkB s = txtsB [s.node, s.id, s.service] ++ [byteOf s.status] ++ txtsB [s.note]) := rfl
 have HL3 : Hid ((txtsB [s.node, s.id, s.service]).length ≤ 192) := by
  have := txtsB_take_le [s.node, s.id, s.service] 3 63 (by intro x hx; simp at hx; rcases hx with rfl | rfl | rfl <;> assumption)
  exact this
 have HS3 : Hid (∀ x ∈ [s.node, s.id, s.service], x.size ≤ 1048576) := by intro x hx; simp at hx; rcases hx with rfl | rfl | rfl <;> omega
 have HS4 : Hid (∀ x ∈ [s.note], x.size ≤ 1048576) := by intro x hx; simp at hx; subst hx; omega
 clear hown h1 h2 h3 h6
 have c0 : wx.cell? ⟨w.heap.size, 0, none⟩ = some (.string s.node) := KA.out.cell 0 rfl
 have c1 : wx.cell? ⟨w.heap.size, 1, none⟩ = some (.string s.id) := KA.out.cell 1 rfl
 have c2 : wx.cell? ⟨w.heap.size, 2, none⟩ = some (.string s.service) := KA.out.cell 2 rfl
 go_enter Tryz.func71, Tryz.ntmps71
 go_upto_region 1 with fail
 rw [← Hwx.out]
 clear Hwx
 go_wp2_with fail
 refine (writeTexts_lit B v l [s.node, s.id, s.service] _ 3 3 _ wx HO hBx (by omega) rfl rfl rfl (by omega) HS3.out).mono ?_
 rintro e w1 ⟨v1, rfl, ho1, hg1⟩
 have KA1 : Hid (Blk w1 w.heap.size s.v 52) := row_grewB KA.out HO hg1 (by decide)
 have HG1 := HG.trans hg1
 have hB1 : B ≤ w1.heap.size := Nat.le_trans hBx hg1.size
 have hl1 : (l ++ txtsB [s.node, s.id, s.service]).length ≤ 35184372088832 + 192 := by have := HL3.out; simp only [List.length_append]; omega
 obtain ⟨l1, Hl1⟩ : ∃ x, Hid (x = l ++ txtsB [s.node, s.id, s.service]) := ⟨_, rfl⟩
 rw [← Hl1.out] at ho1 hl1
 clear c0 c1 c2 hg1 HO KA HG hBx
 have c3 : w1.cell? ⟨w.heap.size, 3, none⟩ = some (.int .i64 s.status) := KA1.out.cell 3 rfl
 have HN : Hid (bs [byteOf s.status] = [.int .u8 s.status]) := by
  show _ = _
  rw [bs_lit, byteOf_val]
  rw [show s.status % 256 = s.status by omega]
 go_wp2_with (at_builtin; refine append_bytes _ rfl (.tmp 14) (.tmp 18) rfl B _ _ rfl (ho1.alloc _) ⟨w1.heap.size, 0, none⟩ 1 1 [byteOf s.status] rfl rfl (by intro j u hj; rw [HN.out] at hj; exact cells_new _ _ _ j u hj) (by omega) (by simp; omega) ?_)
 intro v3 w3 ho3 hg3'
 have hg3 := hg3'.ofAlloc
 have KA3 : Hid (Blk w3 w.heap.size s.v 52) := row_grewB KA1.out ho1 hg3 (by decide)
 have HG3 := HG1.trans hg3
 have hB3 : B ≤ w3.heap.size := Nat.le_trans hB1 hg3.size
 have hl3 : (l1 ++ [byteOf s.status]).length ≤ 35184372088832 + 195 := by simp only [List.length_append, List.length_cons, List.length_nil]; omega
 obtain ⟨l3, Hl3⟩ : ∃ x, Hid (x = l1 ++ [byteOf s.status]) := ⟨_, rfl⟩
 rw [← Hl3.out] at ho3 hl3
 clear c3 hg3 hg3' ho1 KA1 HG1 hB1 HN
 have c4 : w3.cell? ⟨w.heap.size, 4, none⟩ = some (.string s.note) := KA3.out.cell 4 rfl
 go_wp2_with fail
 refine (writeTexts_lit B v3 l3 [s.note] _ 1 1 _ w3 ho3 hB3 (by omega) rfl rfl rfl (by omega) HS4.out).mono ?_
 rintro e w4 ⟨v4, rfl, ho4, hg4⟩
 have HG4 := HG3.trans hg4
 have HF : Hid (Own w4 B v4 (l ++ chkB s)) := by
  show Own _ _ _ _
  have := ho4
  rw [Hl3.out, Hl1.out] at this
  rw [HE.out]
  simpa only [List.append_assoc] using this
 clear hg4 ho4 ho3 KA3 HG3 hB3
 go_wp2
 go_ret
 exact ⟨_, rfl, HF.out, HG4⟩
end Go.Proofs.YtbhhjnbomhkdmaaGreatDoor

/- Layer 13 (journal): writeOp. -/
namespace Go.Proofs.YtbhhjnbomhkdmaaGreatDoor
open Go.RowKit
set_option linter.unusedVariables false

structure Opp.rng (o : Opp) : Prop where
 w0 : 0 ≤ o.want
 w1 : o.want ≤ 18446744073709551615

theorem snd_kind {o : Opp} (h : Snd o) : 1 ≤ o.kind ∧ o.kind ≤ 6 := by cases h <;> exact ⟨by simp, by simp⟩
theorem casB_le (o : Opp) : (casB o).length ≤ 9 := by
 unfold casB
 split
 ·simp [big_length]
 ·simp

set_option maxRecDepth 100000 in
set_option maxHeartbeats 2000000 in
theorem writeOp_calls (B : Nat) (v : Value) (l : List UInt8) (o : Opp) (ta : Option Addr) (tc : Nat) (w : World) (hs : Snd o) (hr : o.rng) (hown : Own w B v l) (hB : B ≤ w.heap.size) (hl : l.length ≤ 17592186044416) (hap : Apt w v ta (o.svc.tags.map Value.string)) :
  Calls Tryz.prog 52 #[v, .agg (o.v (.slice ta o.svc.tags.length tc))] w fun e w' => ∃ v', e = .returned v' ∧ Own w' B v' (l ++ opB o) ∧ Grew w w' v v' := by
 obtain ⟨wx, Hwx⟩ : ∃ x, Hid (x = w.alloc (.cells (o.v (.slice ta o.svc.tags.length tc)) 54)) := ⟨_, rfl⟩
 have KA : Hid (Blk wx w.heap.size (o.v (.slice ta o.svc.tags.length tc)) 54) := by rw [Hwx.out]; exact Blk.new _ _ _
 have HO : Own wx B v l := by rw [Hwx.out]; exact hown.alloc _
 have hBx : B ≤ wx.heap.size := by rw [Hwx.out, size_new]; omega
 have HG : Grew w wx v v := by rw [Hwx.out]; exact (Grew.refl _ _).alloc _
 have HA : Apt wx v ta (o.svc.tags.map Value.string) := by rw [Hwx.out]; exact hap.alloc _
 clear hown hap
 have c0 : wx.cell? ⟨w.heap.size, 0, none⟩ = some (.int .i64 o.kind) := KA.out.cell 0 rfl
 obtain ⟨hk1, hk6⟩ := snd_kind hs
 have HN : Hid (bs [byteOf o.kind] = [.int .u8 o.kind]) := by
  show _ = _
  rw [bs_lit, byteOf_val]
  rw [show o.kind % 256 = o.kind by omega]
 go_enter Tryz.func52, Tryz.ntmps52
 go_upto_region 1 with fail
 rw [← Hwx.out]
 clear Hwx
 go_wp2_with (at_builtin; refine append_bytes _ rfl (.tmp 5) (.tmp 9) rfl B _ _ rfl (HO.alloc _) ⟨wx.heap.size, 0, none⟩ 1 1 [byteOf o.kind] rfl rfl (by intro j u hj; rw [HN.out] at hj; exact cells_new _ _ _ j u hj) (by omega) (by simp; omega) ?_)
 intro v1 w1 ho1 hg1'
 have hg1 := hg1'.ofAlloc
 have KA1 : Hid (Blk w1 w.heap.size (o.v (.slice ta o.svc.tags.length tc)) 54) := row_grewB KA.out HO hg1 (by decide)
 have HG1 := HG.trans hg1
 have HA1 := HA.grew hg1
 have hB1 : B ≤ w1.heap.size := Nat.le_trans hBx hg1.size
 have hl1 : (l ++ [byteOf o.kind]).length ≤ 17592186044417 := by simp only [List.length_append, List.length_cons, List.length_nil]; omega
 obtain ⟨l1, Hl1⟩ : ∃ x, Hid (x = l ++ [byteOf o.kind]) := ⟨_, rfl⟩
 rw [← Hl1.out] at ho1 hl1
 clear c0 hg1 hg1' HO KA HG HA hBx HN
 go_upto_region 2 with fail
 iterate 5 go_step
 refine wp_get_op rfl KA1.out rfl rfl ?_
 go_wp2_with fail
 refine (writeCas_calls B v1 l1 o _ w1 ho1 hB1 (by omega) hr.w0 hr.w1).mono ?_
 rintro e w2 ⟨v2, rfl, ho2, hg2⟩
 have KA2 : Hid (Blk w2 w.heap.size (o.v (.slice ta o.svc.tags.length tc)) 54) := row_grewB KA1.out ho1 hg2 (by decide)
 have HG2 := HG1.trans hg2
 have HA2 := HA1.grew hg2
 have hB2 : B ≤ w2.heap.size := Nat.le_trans hB1 hg2.size
 have hl2 : (l1 ++ casB o).length ≤ 17592186044430 := by have := casB_le o; simp only [List.length_append]; omega
 obtain ⟨l2, Hl2⟩ : ∃ x, Hid (x = l1 ++ casB o) := ⟨_, rfl⟩
 rw [← Hl2.out] at ho2 hl2
 clear hg2 ho1 KA1 HG1 HA1 hB1
 have HE : Hid (∀ w' v', Own w' B v' (l2 ++ bodyB o) → Own w' B v' (l ++ opB o)) := by
  intro w' v' h
  rw [Hl2.out, Hl1.out] at h
  simpa only [opB, List.append_assoc, List.cons_append, List.nil_append] using h
 clear Hl1 Hl2 hk1 hk6 hl1
 cases hs with
 | node n a b x hx h1 h2 =>
  have c0 : w2.cell? ⟨w.heap.size, 0, none⟩ = some (.int .i64 1) := KA2.out.cell 0 rfl
  have c1 : w2.cell? ⟨w.heap.size, 1, none⟩ = some (.string n) := KA2.out.cell 1 rfl
  have c2 : w2.cell? ⟨w.heap.size, 2, none⟩ = some (.string a) := KA2.out.cell 2 rfl
  have HS : Hid (∀ x ∈ [n, a], x.size ≤ 1048576) := by intro x hx; simp at hx; rcases hx with rfl | rfl <;> omega
  clear hx KA2 HA2
  go_wp2_with fail
  refine (writeTexts_lit B v2 l2 [n, a] _ 2 2 _ w2 ho2 hB2 (by omega) rfl rfl rfl (by omega) HS.out).mono ?_
  rintro e w3 ⟨v3, rfl, ho3, hg3⟩
  have HG3 := HG2.trans hg3
  have HF := HE.out w3 v3 ho3
  clear ho3 hg3 HE
  go_wp2
  go_ret
  exact ⟨_, rfl, HF, HG3⟩
 | svc n i m p t b x hx h1 h2 h3 h4 h5 h6 h7 =>
  have c0 : w2.cell? ⟨w.heap.size, 0, none⟩ = some (.int .i64 2) := KA2.out.cell 0 rfl
  clear hx
  go_upto_region 7 with fail
  iterate 8 go_step
  refine wp_get_part (n := 7) (l := [.string n, .string i, .string m, .int .i64 p, .slice ta t.length tc, .int .u64 0, .int .u64 0]) rfl KA2.out rfl rfl Tryz.underlying48 rfl size_svc ?_
  go_wp2_with fail
  refine (writeService_calls B v2 l2 ⟨n, i, m, p, t, 0, 0⟩ ta tc w2 ho2 hB2 (by omega) h1 h2 h3 (by show (0 : Int) ≤ p; omega) h5 h6 h7 HA2).mono ?_
  rintro e w3 ⟨v3, rfl, ho3, hg3⟩
  have HG3 := HG2.trans hg3
  have HF := HE.out w3 v3 ho3
  clear ho3 hg3 HE
  go_wp2
  go_ret
  exact ⟨_, rfl, HF, HG3⟩
 | chk n i m p t b x hx h1 h2 h3 h4 h5 h6 =>
  have c0 : w2.cell? ⟨w.heap.size, 0, none⟩ = some (.int .i64 3) := KA2.out.cell 0 rfl
  clear hx
  go_upto_region 9 with fail
  iterate 8 go_step
  refine wp_get_part (n := 7) (l := [.string n, .string i, .string m, .int .i64 p, .string t, .int .u64 0, .int .u64 0]) rfl KA2.out rfl rfl Tryz.underlying52 rfl size_chk ?_
  go_wp2_with fail
  refine (writeCheck_calls B v2 l2 ⟨n, i, m, p, t, 0, 0⟩ w2 ho2 hB2 (by omega) h1 h2 h3 (by show (0 : Int) ≤ p; omega) h5 h6).mono ?_
  rintro e w3 ⟨v3, rfl, ho3, hg3⟩
  have HG3 := HG2.trans hg3
  have HF := HE.out w3 v3 ho3
  clear ho3 hg3 HE
  go_wp2
  go_ret
  exact ⟨_, rfl, HF, HG3⟩
 | dnode n b x hx h1 =>
  have c0 : w2.cell? ⟨w.heap.size, 0, none⟩ = some (.int .i64 4) := KA2.out.cell 0 rfl
  have c1 : w2.cell? ⟨w.heap.size, 1, none⟩ = some (.string n) := KA2.out.cell 1 rfl
  have HS : Hid (∀ x ∈ [n], x.size ≤ 1048576) := by intro x hx; simp at hx; subst hx; omega
  clear hx KA2 HA2
  go_wp2_with fail
  refine (writeTexts_lit B v2 l2 [n] _ 1 1 _ w2 ho2 hB2 (by omega) rfl rfl rfl (by omega) HS.out).mono ?_
  rintro e w3 ⟨v3, rfl, ho3, hg3⟩
  have HG3 := HG2.trans hg3
  have HF := HE.out w3 v3 ho3
  clear ho3 hg3 HE
  go_wp2
  go_ret
  exact ⟨_, rfl, HF, HG3⟩
 | dsvc n i b x hx h1 h2 =>
  have c0 : w2.cell? ⟨w.heap.size, 0, none⟩ = some (.int .i64 5) := KA2.out.cell 0 rfl
  have c5 : w2.cell? ⟨w.heap.size, 5, none⟩ = some (.string n) := KA2.out.cell 5 rfl
  have c6 : w2.cell? ⟨w.heap.size, 6, none⟩ = some (.string i) := KA2.out.cell 6 rfl
  have HS : Hid (∀ x ∈ [n, i], x.size ≤ 1048576) := by intro x hx; simp at hx; rcases hx with rfl | rfl <;> omega
  clear hx KA2 HA2
  go_wp2_with fail
  refine (writeTexts_lit B v2 l2 [n, i] _ 2 2 _ w2 ho2 hB2 (by omega) rfl rfl rfl (by omega) HS.out).mono ?_
  rintro e w3 ⟨v3, rfl, ho3, hg3⟩
  have HG3 := HG2.trans hg3
  have HF := HE.out w3 v3 ho3
  clear ho3 hg3 HE
  go_wp2
  go_ret
  exact ⟨_, rfl, HF, HG3⟩
 | dchk n i b x hx h1 h2 =>
  have c0 : w2.cell? ⟨w.heap.size, 0, none⟩ = some (.int .i64 6) := KA2.out.cell 0 rfl
  have c12 : w2.cell? ⟨w.heap.size, 12, none⟩ = some (.string n) := KA2.out.cell 12 rfl
  have c13 : w2.cell? ⟨w.heap.size, 13, none⟩ = some (.string i) := KA2.out.cell 13 rfl
  have HS : Hid (∀ x ∈ [n, i], x.size ≤ 1048576) := by intro x hx; simp at hx; rcases hx with rfl | rfl <;> omega
  clear hx KA2 HA2
  go_wp2_with fail
  refine (writeTexts_lit B v2 l2 [n, i] _ 2 2 _ w2 ho2 hB2 (by omega) rfl rfl rfl (by omega) HS.out).mono ?_
  rintro e w3 ⟨v3, rfl, ho3, hg3⟩
  have HG3 := HG2.trans hg3
  have HF := HE.out w3 v3 ho3
  clear ho3 hg3 HE
  go_wp2
  go_ret
  exact ⟨_, rfl, HF, HG3⟩
end Go.Proofs.YtbhhjnbomhkdmaaGreatDoor

/- Layer 13 (journal): readPayload. -/
namespace Go.Proofs.YtbhhjnbomhkdmaaGreatDoor
open Go.RowKit
set_option linter.unusedVariables false

theorem step_append_ov {ops : Array Oper} {o : Oper} {a : Act} {W : World} {K : Act → World → Prop} {Q : Exit → Act → World → Prop} {E : Prop} (s x : Operand) (z : OV) {B n : Nat} {v : Value} {l : List Value} (W1 : World) (hW : W = W1.alloc (.cells z.v 54)) (hgd : o.guard = none) (ho : o.op = .call { callee := .builtin .append, args := #[s, x], argTypes := #[25, 25] })
  (hs : a.eval s = v) (hown : W1.ownsRow B 54 21 v n l) (hx : a.eval x = .slice (some ⟨W1.heap.size, 0, none⟩) 1 1) (hlen : (n + 1) * 256 ≤ 140737488355328) (hB : B ≤ W1.heap.size)
  (h : ∀ v' w', w'.ownsRow B 54 21 v' (n + 1) (l ++ z.v.toList) → Grew W1 w' v v' → K (a.put o.dst v') w') :
  if Region.wanted o (yielded ops a.tmps) = true then Oper.wp Tryz.prog o a W K Q else E := by
 subst hW
 have hw : Region.wanted o (yielded ops a.tmps) = true := by simp [Region.wanted, hgd]
 rw [if_pos hw]
 obtain ⟨i0, hi, hz0, hz1, hz2⟩ := info_parts info_opz
 obtain ⟨v', w', hr, h2, h3, _⟩ := run_append_grew (P := Tryz.prog) (W1.alloc (.cells z.v 54)) B 25 o.type 54 i0 _ 21 256 Tryz.underlying25 hi hz0 hz1 hz2 rfl (by decide) v n l (row_below hown (below_new _ _)) ⟨W1.heap.size, 0, none⟩ 1 1 z.v.toList rfl (fun j u hj => by
  rw [Addr.add_mid, Nat.zero_add, World.cell?_alloc_mark]
  simpa using hj) (ocs_one z) (by unfold maxLen; omega) (by omega) (by simp; omega)
 unfold Oper.wp execOp
 simp only [ho, resolve, invoke, builtin, Sem.run_bind, Sem.run_pure, Result.andThen_ok, List.map_toArray, List.map_cons, List.map_nil, hs, hx, hr]
 exact h v' w' h2 h3.ofAlloc

/-- What stands between two rounds of readPayload. -/
structure RpI (w W0 : World) (rb g2 ge : Nat) (i : Int) (v : Value) (m : List OV) (s : Rd) (W : World) : Prop where
 rd : Rdd W0 rb s W
 e : Blk W ge #[.int .u64 i, v] 27
 z : Blk W g2 #[.int .u64 0, .slice none 0 0] 27
 own : OwnO W W0.heap.size v m
 bl : Below w.heap.size w W
 len : s.1.length ≤ 140737488355328
structure RpG (w W0 : World) (rb g2 ge : Nat) : Prop where
 rb0 : w.heap.size ≤ rb
 rb1 : rb < W0.heap.size
 g20 : w.heap.size ≤ g2
 g21 : g2 < W0.heap.size
 g2r : g2 ≠ rb
 ge0 : W0.heap.size ≤ ge
 w0 : w.heap.size ≤ W0.heap.size
theorem drew_below (W : World) : Below W.heap.size W W.drew := ⟨rfl, rfl, rfl, Nat.le_refl _, fun _ _ => rfl⟩
theorem below_grown1 {B : Nat} {a b c : World} {r : Nat} (h : Below B a b) (hB : B ≤ a.heap.size) (hr : B ≤ r) (hg : b.grownBy c (some r)) : Below B a c :=
 ⟨hg.os.trans h.os, hg.tape.trans h.tape, hg.output.trans h.output, Nat.le_trans h.size hg.size, fun k hk => (hg.block k (by have := h.size; omega) (by simp; omega)).trans (h.block k hk)⟩
theorem RpI.read {w W0 : World} {rb g2 ge : Nat} {i : Int} {v : Value} {m : List OV} {s s' : Rd} {W W' : World} (G : RpG w W0 rb g2 ge) (h : RpI w W0 rb g2 ge i v m s W) (hl : s'.1.length ≤ s.1.length) (hr : Rdd W rb s' W') : RpI w W0 rb g2 ge i v m s' W' := by
 obtain ⟨cs, hb⟩ := h.rd.at'.blk
 exact ⟨h.rd.trans hr, h.e.grown hr.grown (by have := G.ge0; have := G.rb1; omega), h.z.grown hr.grown G.g2r, ⟨row_grown h.own.row hb (by decide) hr.grown, fun x hx => row_grown (h.own.tags x hx) hb (by decide) hr.grown⟩,
  below_grown1 h.bl (Nat.le_refl _) G.rb0 hr.grown, Nat.le_trans hl h.len⟩
theorem RpI.below {w W0 : World} {rb g2 ge : Nat} {i : Int} {v : Value} {m : List OV} {s : Rd} {W W' : World} (h : RpI w W0 rb g2 ge i v m s W) (hb : Below W.heap.size W W') : RpI w W0 rb g2 ge i v m s W' :=
 ⟨h.rd.below hb, h.e.below hb, h.z.below hb, h.own.below hb, h.bl.trans (hb.mono h.bl.size), h.len⟩
theorem RpI.push {w W0 : World} {rb g2 ge : Nat} {i : Int} {v v7 : Value} {m : List OV} {s : Rd} {W w7 : World} {z : OV} (G : RpG w W0 rb g2 ge) (h : RpI w W0 rb g2 ge i v m s W) (ht : TagO W W0.heap.size z) (ho : w7.ownsRow W0.heap.size 54 21 v7 (m.length + 1) (ocs m ++ z.v.toList)) (hg : Grew W w7 v v7) : RpI w W0 rb g2 ge i v7 (m ++ [z]) s (w7.setCell ⟨ge, 1, none⟩ v7) := by
 have hE : Blk w7 ge #[.int .u64 i, v] 27 := row_grewB h.e h.own.row hg (by decide)
 have hZ : Blk w7 g2 #[.int .u64 0, .slice none 0 0] 27 := row_grewB h.z h.own.row hg (by decide)
 have hO : OwnO w7 W0.heap.size v7 (m ++ [z]) := h.own.push ht ho hg
 have hR : Rdd W0 rb s w7 := h.rd.grow G.rb1 h.own.row (Nat.le_refl _) hg
 have hsz := h.bl.size
 have hB : Below w.heap.size w w7 := h.bl.trans (hg.toBelow hsz fun k hk => Nat.le_trans G.w0 (World.ownsRow.lt h.own.row k hk).1)
 refine ⟨hR.over G.rb1 ((Below.refl _ _).setCell (p := ⟨ge, 1, none⟩) G.ge0 _), ?_, hZ.off (a := ⟨ge, 1, none⟩) (by have := G.ge0; have := G.g21; simp; omega) _, ⟨rowN_set1 hE (by decide) hO.row _, fun x hx => rowN_set1 hE (by decide) (hO.tags x hx) _⟩, hB.setCell (p := ⟨ge, 1, none⟩) (by have := G.ge0; have := G.w0; simp; omega) _, h.len⟩
 have := hE.put 1 v7
 simpa using this
theorem RpI.pushK {w W0 : World} {rb g2 ge k : Nat} {i : Int} {v v7 : Value} {m : List OV} {s : Rd} {W w7 : World} {z : OV} (h : RpI w W0 rb g2 ge i v m s W) (hk : m.length = k) (G : RpG w W0 rb g2 ge) (ht : TagO W W0.heap.size z) (ho : w7.ownsRow W0.heap.size 54 21 v7 (k + 1) (ocs m ++ z.v.toList)) (hg : Grew W w7 v v7) : RpI w W0 rb g2 ge i v7 (m ++ [z]) s (w7.setCell ⟨ge, 1, none⟩ v7) := h.push G ht (by rw [hk]; exact ho) hg
theorem own_row {W : World} {B k : Nat} {v : Value} {m : List OV} (hk : m.length = k) (h : OwnO W B v m) : W.ownsRow B 54 21 v k (ocs m) := by
 have := h.row
 rw [hk] at this
 exact this
theorem tag_of {W : World} {B B' : Nat} {o : Opp} {ta : Option Addr} {tc : Nat} {z : OV} (hz : z = ⟨o, ta, tc⟩) (hB : B ≤ B') (h : W.ownsRow B' 9 1 (.slice ta o.svc.tags.length tc) o.svc.tags.length (o.svc.tags.map Value.string)) : TagO W B z := by
 subst hz
 exact row_weak hB h
theorem zo_of {o : Opp} {ta : Option Addr} {tc : Nat} {z : OV} (hz : z = ⟨o, ta, tc⟩) : z.o = o := by subst hz; rfl
theorem zv_of {o : Opp} {ta : Option Addr} {tc : Nat} {z : OV} (hz : z = ⟨o, ta, tc⟩) : o.v (.slice ta o.svc.tags.length tc) = z.v := by subst hz; rfl
/-- op's answer, by its parts. -/
def opQ (k : Nat) (cb : Bool) (cw : Nat) (a b d e f g : Rd) (ts : List ByteArray × Rd) (po st : Nat) : Opp × Rd :=
 if k = 1 then (⟨k, ⟨txt a, txt b, 0, 0⟩, svcZ, chkZ, cb, cw⟩, d)
 else if k = 2 then (⟨k, nodeZ, ⟨txt a, txt b, txt d, po, ts.1, 0, 0⟩, chkZ, cb, cw⟩, ts.2)
 else if k = 3 then (⟨k, nodeZ, svcZ, ⟨txt a, txt b, txt d, st, txt f, 0, 0⟩, cb, cw⟩, g)
 else if k = 4 then (⟨k, ⟨txt a, ⟨#[]⟩, 0, 0⟩, svcZ, chkZ, cb, cw⟩, b)
 else if k = 5 then (⟨k, nodeZ, ⟨txt a, txt b, ⟨#[]⟩, 0, [], 0, 0⟩, chkZ, cb, cw⟩, d)
 else if k = 6 then (⟨k, nodeZ, svcZ, ⟨txt a, txt b, ⟨#[]⟩, 0, ⟨#[]⟩, 0, 0⟩, cb, cw⟩, d)
 else (⟨k, nodeZ, svcZ, chkZ, cb, cw⟩, a)
theorem opP_Q (s : Rd) : opP s = opQ (smlB s) (casP (tkS 1 s)).1.1 (casP (tkS 1 s)).1.2 (casP (tkS 1 s)).2 (txS (casP (tkS 1 s)).2) (txS (txS (casP (tkS 1 s)).2)) (txS (txS (txS (casP (tkS 1 s)).2))) (tkS 1 (txS (txS (txS (casP (tkS 1 s)).2)))) (txS (tkS 1 (txS (txS (txS (casP (tkS 1 s)).2))))) (textsP (tkS 2 (txS (txS (txS (casP (tkS 1 s)).2))))) (unbig (tkB 2 (txS (txS (txS (casP (tkS 1 s)).2))))) (smlB (txS (txS (txS (casP (tkS 1 s)).2)))) := by
 unfold opP opQ
 rfl
theorem opQ_len {k : Nat} {cb : Bool} {cw : Nat} {a b d e f g : Rd} {ts : List ByteArray × Rd} {po st N : Nat} (ha : a.1.length ≤ N) (hb : b.1.length ≤ N) (hd : d.1.length ≤ N) (hg : g.1.length ≤ N) (ht : ts.2.1.length ≤ N) : (opQ k cb cw a b d e f g ts po st).2.1.length ≤ N := by
 unfold opQ
 repeat' split
 all_goals assumption
theorem opP_len (s : Rd) : (opP s).2.1.length ≤ s.1.length := by
 have a := Nat.le_trans (casP_len (tkS 1 s)) (tkS_len 1 s)
 have t := Nat.le_trans (txS_len (casP (tkS 1 s)).2) a
 have t2 := Nat.le_trans (txS_len (txS (casP (tkS 1 s)).2)) t
 have t3 := Nat.le_trans (txS_len (txS (txS (casP (tkS 1 s)).2))) t2
 have t4 := Nat.le_trans (tkS_len 2 (txS (txS (txS (casP (tkS 1 s)).2)))) t3
 have t5 := Nat.le_trans (textsP_len (tkS 2 (txS (txS (txS (casP (tkS 1 s)).2))))) t4
 have t6 := Nat.le_trans (tkS_len 1 (txS (txS (txS (casP (tkS 1 s)).2)))) t3
 have t7 := Nat.le_trans (txS_len (tkS 1 (txS (txS (txS (casP (tkS 1 s)).2))))) t6
 rw [opP_Q]
 exact opQ_len a t t2 t7 t5
theorem txt_le (s : Rd) : (txt s).size ≤ 255 := by
 have h1 := tkB_len (smlB s) (tkS 1 s)
 have h2 := smlB_lt s
 show (txB s).toArray.size ≤ 255
 simp only [List.size_toArray]
 unfold txB
 omega
theorem txsP_le : ∀ (n : Nat) (s : Rd), ∀ t ∈ (txsP n s).1, t.size ≤ 255
 | 0, s, t, h => by simp [txsP] at h
 | n + 1, s, t, h => by
  simp only [txsP, List.mem_append, List.mem_singleton] at h
  rcases h with h | rfl
  ·exact txsP_le n s t h
  ·exact txt_le _
theorem unbigK_le (k : Nat) (s : Rd) : (unbig (tkB k s) : Nat) < 256 ^ k := unbig_le _ k (tkB_len k s)
theorem casP_le (s : Rd) : (casP s).1.2 ≤ 18446744073709551615 := by
 unfold casP
 split
 ·exact Nat.zero_le _
 split
 ·have := unbigK_le 8 (tkS 1 s)
  show unbig (tkB 8 (tkS 1 s)) ≤ _
  omega
 ·exact Nat.zero_le _
theorem opQ_ok {k : Nat} {cb : Bool} {cw : Nat} {a b d e f g : Rd} {ts : List ByteArray × Rd} {po st : Nat} (hc : cw ≤ 18446744073709551615) (hl : ts.1.length ≤ 255) (ht : ∀ t ∈ ts.1, t.size ≤ 255) : (opQ k cb cw a b d e f g ts po st).1.small ∧ (opQ k cb cw a b d e f g ts po st).1.svc.tags.length ≤ 255 ∧ (opQ k cb cw a b d e f g ts po st).1.rng := by
 have tl : ∀ x : Rd, (txt x).size ≤ 140737488351296 := fun x => Nat.le_trans (txt_le x) (by decide)
 have z : (⟨#[]⟩ : ByteArray).size ≤ 140737488351296 := Nat.zero_le _
 have hrng : ∀ (k : Int) (n : Nd) (v : Sp) (c : Ck), (⟨k, n, v, c, cb, (cw : Nat)⟩ : Opp).rng := fun k n v c => ⟨by show (0 : Int) ≤ (cw : Nat); omega, by show ((cw : Nat) : Int) ≤ _; omega⟩
 have ht2 : ∀ t ∈ ts.1, t.size ≤ 140737488351296 := fun t h => Nat.le_trans (ht t h) (by decide)
 have sZ : svcZ.small := ⟨by decide, by decide, by decide, by decide, fun x hx => by cases hx⟩
 have cZ : chkZ.small := ⟨by decide, by decide, by decide, by decide⟩
 unfold opQ
 split
 ·exact ⟨⟨tl _, tl _, sZ, cZ⟩, Nat.zero_le _, hrng _ _ _ _⟩
 split
 ·exact ⟨⟨z, z, ⟨tl _, tl _, tl _, Nat.le_trans hl (by decide), ht2⟩, cZ⟩, hl, hrng _ _ _ _⟩
 split
 ·exact ⟨⟨z, z, sZ, ⟨tl _, tl _, tl _, tl _⟩⟩, Nat.zero_le _, hrng _ _ _ _⟩
 split
 ·exact ⟨⟨tl _, z, sZ, cZ⟩, Nat.zero_le _, hrng _ _ _ _⟩
 split
 ·exact ⟨⟨z, z, ⟨tl _, tl _, z, Nat.zero_le _, fun x hx => by cases hx⟩, cZ⟩, Nat.zero_le _, hrng _ _ _ _⟩
 split
 ·exact ⟨⟨z, z, sZ, ⟨tl _, tl _, z, z⟩⟩, Nat.zero_le _, hrng _ _ _ _⟩
 ·exact ⟨⟨z, z, sZ, cZ⟩, Nat.zero_le _, hrng _ _ _ _⟩
theorem textsP_le (x : Rd) : (textsP x).1.length ≤ 255 ∧ ∀ t ∈ (textsP x).1, t.size ≤ 255 := by
 have h1 := (txsP_len (smlB x) (tkS 1 x)).1
 have h2 := smlB_lt x
 exact ⟨by unfold textsP; omega, txsP_le _ _⟩
theorem opP_ok (s : Rd) : (opP s).1.small ∧ (opP s).1.svc.tags.length ≤ 255 ∧ (opP s).1.rng := by
 rw [opP_Q]
 exact opQ_ok (casP_le _) (textsP_le _).1 (textsP_le _).2
theorem opsP_ok : ∀ (n : Nat) (s : Rd), (∀ o ∈ (opsP n s).1, o.small ∧ o.svc.tags.length ≤ 255 ∧ o.rng) ∧ (opsP n s).1.length = n ∧ (opsP n s).2.1.length ≤ s.1.length
 | 0, s => ⟨fun o h => by simp [opsP] at h, rfl, Nat.le_refl _⟩
 | n + 1, s => by
  obtain ⟨h1, h2, h3⟩ := opsP_ok n s
  refine ⟨fun o h => ?_, by simp [opsP, h2], Nat.le_trans (opP_len _) h3⟩
  simp only [opsP, List.mem_append, List.mem_singleton] at h
  rcases h with h | rfl
  ·exact h1 o h
  ·exact opP_ok _
end Go.Proofs.YtbhhjnbomhkdmaaGreatDoor
