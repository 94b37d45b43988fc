/- Layer 13 (journal): writeCas, writeService, writeCheck. -/
import Derived.Test.YthgcnmilaifkoaaGreatDoorJPay
import Derived.Test.YthgcnmilaifkoaaGreatDoorRcCopyS
namespace Go.Proofs.YthgcnmilaifkoaaGreatDoor
open Go.RowKit
set_option linter.unusedVariables false

theorem bs_lit (c : UInt8) : bs [c] = [.int .u8 (c.toNat : Int)] := rfl
theorem ne_of_grew {W w5 : World} {v v5 : Value} {p : Addr} {x : Value} (hc : W.cell? p = some x) (hne : some p.block ≠ v.ownBlock) (hg : Grew W w5 v v5) : some p.block ≠ v5.ownBlock := by
 intro e
 rcases hg.place _ e.symm with h | h
 ·exact hne h.symm
 ·have := World.block_lt_of_cell? _ _ hc
  omega
set_option maxRecDepth 100000 in
set_option maxHeartbeats 2000000 in
theorem writeCas_calls (B : Nat) (v : Value) (l : List UInt8) (o : Opp) (t : Value) (w : World) (hown : Own w B v l) (hB : B ≤ w.heap.size) (hl : l.length ≤ 70368744177664) (h0 : 0 ≤ o.want) (h1 : o.want ≤ 18446744073709551615) :
    Calls Tryz.prog 54 #[v, .agg (o.v t)] w fun e w' => ∃ v', e = .returned v' ∧ Own w' B v' (l ++ casB o) ∧ Grew w w' v v' := by
  obtain ⟨wx, Hwx⟩ : ∃ x, Hid (x = w.alloc (.cells (o.v t) 47)) := ⟨_, rfl⟩
  have KA : Hid (Blk wx w.heap.size (o.v t) 47) := by rw [Hwx.out]; exact Blk.new _ _ _
  have HO : Own wx B v l := by rw [Hwx.out]; exact hown.alloc _
  have hBx : B ≤ wx.heap.size := by rw [Hwx.out, size_new]; omega
  have HG : Grew w wx v v := by rw [Hwx.out]; exact (Grew.refl _ _).alloc _
  have c19 : wx.cell? ⟨w.heap.size, 19, none⟩ = some (.bool o.cas) := KA.out.cell 19 rfl
  have c20 : wx.cell? ⟨w.heap.size, 20, none⟩ = some (.int .u64 o.want) := KA.out.cell 20 rfl
  cases hcas : o.cas with
  | false =>
    have HC : Hid (casB o = [0]) := by unfold casB; rw [hcas]; rfl
    rw [hcas] at c19
    clear hcas
    go_enter Tryz.func54, Tryz.ntmps54
    go_upto_region 1 with fail
    rw [← Hwx.out]
    clear Hwx
    go_wp2_with (at_builtin; refine append_bytes _ rfl (.tmp 8) (.tmp 9) rfl B _ _ rfl (HO.alloc _) ⟨wx.heap.size, 0, none⟩ 1 1 [0] rfl rfl (cells_new _ _ _) (by omega) (by simp; omega) ?_)
    intro v1 w1 ho1 hg1
    have hg2 := HG.trans hg1.ofAlloc
    clear hg1
    go_wp2
    go_ret
    exact ⟨_, rfl, by rw [HC.out]; exact ho1, hg2⟩
  | true =>
    have HC : Hid (casB o = 1 :: big 8 o.want) := by unfold casB; rw [hcas]; rfl
    rw [hcas] at c19
    clear hcas
    obtain ⟨wt, Hwt⟩ : ∃ x, Hid (x = o.want) := ⟨_, rfl⟩
    rw [← Hwt.out] at c20 h0 h1 HC
    have c20w : Hid (wt = o.want) := Hwt
    clear Hwt
    go_enter Tryz.func54, Tryz.ntmps54
    go_upto_region 1 with fail
    rw [← Hwx.out]
    clear Hwx
    go_upto_region 3 with fail
    have hne : some w.heap.size ≠ v.ownBlock := fun e => by have := (hown.lt _ e.symm).2; omega
    have HNE : Hid (some w.heap.size ≠ v.ownBlock) := hne
    clear hne
    have hbd : Below wx.heap.size wx wx.drew := ⟨rfl, rfl, rfl, Nat.le_refl _, fun _ _ => rfl⟩
    have hbe : Below wx.heap.size wx (wx.drew.alloc (.cells #[.int .u8 1] 5)) := hbd.alloc hbd.size _
    have HOE : Hid (Own (wx.drew.alloc (.cells #[.int .u8 1] 5)) B v l) := HO.below hbe
    have HGE : Hid (Grew w (wx.drew.alloc (.cells #[.int .u8 1] 5)) v v) := HG.below hbe
    have hBE : B ≤ (wx.drew.alloc (.cells #[.int .u8 1] 5)).heap.size := Nat.le_trans hBx hbe.size
    have HCE : Hid ((wx.drew.alloc (.cells #[.int .u8 1] 5)).cell? ⟨w.heap.size, 20, none⟩ = some (.int .u64 wt)) := (KA.out.below hbe).cell 20 (by rw [c20w.out]; rfl)
    clear hbd hbe KA HO HG hown c19
    go_region_held_law (fun W => W.cell? ⟨w.heap.size, 20, none⟩ = some (.int .u64 wt)) (first | (exact q8) | (exact q6) | go_keep)
      (first
        | (refine step_append_u8 _ (by rfl) (.tmp 11) (.tmp 12) (by rfl) B v l (by rfl) HOE.out ⟨wx.drew.heap.size, 0, none⟩ 1 1 [1] (by rfl) rfl (cells_new wx.drew [.int .u8 1] 5) (by omega) hBE ?_
           intro v5 w5 ho5 hg5
           have HO5 : Hid (Own w5 B v5 (l ++ [1])) := ho5
           have HG5 : Hid (Grew w w5 v v5) := HGE.out.trans hg5
           have q6 : w5.cell? ⟨w.heap.size, 20, none⟩ = some (.int .u64 wt) := hg5.cell HCE.out HNE.out
           have hB5 : B ≤ w5.heap.size := Nat.le_trans hBE hg5.size
           have HNE5 : Hid (some w.heap.size ≠ v5.ownBlock) := ne_of_grew HCE.out HNE.out hg5
           clear ho5 hg5)
        | (go_simp
           go_at_call 24
           refine (writeNumber_calls B v5 (l ++ [1]) wt 8 w5 HO5.out hB5 (by simp only [List.length_append, List.length_cons, List.length_nil]; omega) h0 h1 (by omega)).mono ?_
           rintro e w8 ⟨v8, rfl, ho8, hg8⟩
           have HO8 : Hid (Own w8 B v8 (l ++ [1] ++ big 8 wt)) := ho8
           have HG8 : Hid (Grew w w8 v v8) := HG5.out.trans hg8
           have q8 : w8.cell? ⟨w.heap.size, 20, none⟩ = some (.int .u64 wt) := hg8.cell q6 HNE5.out
           clear ho8 hg8
           dsimp only))
    go_wp2
    go_ret
    exact ⟨v8, rfl, by rw [HC.out]; have := HO8.out; simpa only [List.append_assoc, List.cons_append, List.nil_append] using this, HG8.out⟩

set_option maxRecDepth 100000 in
set_option maxHeartbeats 2000000 in
theorem writeService_calls (B : Nat) (v : Value) (l : List UInt8) (s : Sp) (ta : Option Addr) (tc : Nat) (w : World) (hown : Own w B v l) (hB : B ≤ w.heap.size) (hl : l.length ≤ 35184372088832) (h1 : s.node.size ≤ 63) (h2 : s.id.size ≤ 63) (h3 : s.name.size ≤ 63) (h4 : 0 ≤ s.port) (h5 : s.port ≤ 65535) (h6 : s.tags.length ≤ 16) (h7 : ∀ y ∈ s.tags, y.size ≤ 63) (hap : Apt w v ta (s.tags.map Value.string)) :
  Calls Tryz.prog 56 #[v, .agg (s.v (.slice ta s.tags.length tc))] w fun e w' => ∃ v', e = .returned v' ∧ Own w' B v' (l ++ svcB s) ∧ Grew w w' v v' := by
 obtain ⟨wx, Hwx⟩ : ∃ x, Hid (x = w.alloc (.cells (s.v (.slice ta s.tags.length tc)) 41)) := ⟨_, rfl⟩
 have KA : Hid (Blk wx w.heap.size (s.v (.slice ta s.tags.length tc)) 41) := by rw [Hwx.out]; exact Blk.new _ _ _
 have HO : Own wx B v l := by rw [Hwx.out]; exact hown.alloc _
 have hBx : B ≤ wx.heap.size := by rw [Hwx.out, size_new]; omega
 have HG : Grew w wx v v := by rw [Hwx.out]; exact (Grew.refl _ _).alloc _
 have HA : Apt wx v ta (s.tags.map Value.string) := by rw [Hwx.out]; exact hap.alloc _
 have HE : Hid (svcB s = txtsB [s.node, s.id, s.name] ++ big 2 s.port ++ [byteOf s.tags.length] ++ txtsB s.tags) := rfl
 have HL3 : Hid ((txtsB [s.node, s.id, s.name]).length ≤ 192) := by
  have := txtsB_take_le [s.node, s.id, s.name] 3 63 (by intro x hx; simp at hx; rcases hx with rfl | rfl | rfl <;> assumption)
  exact this
 have HS3 : Hid (∀ x ∈ [s.node, s.id, s.name], x.size ≤ 1048576) := by intro x hx; simp at hx; rcases hx with rfl | rfl | rfl <;> omega
 have HS4 : Hid (∀ x ∈ s.tags, x.size ≤ 1048576) := fun x hx => by have := h7 x hx; omega
 clear hown hap h1 h2 h3 h7
 have c0 : wx.cell? ⟨w.heap.size, 0, none⟩ = some (.string s.node) := KA.out.cell 0 rfl
 have c1 : wx.cell? ⟨w.heap.size, 1, none⟩ = some (.string s.id) := KA.out.cell 1 rfl
 have c2 : wx.cell? ⟨w.heap.size, 2, none⟩ = some (.string s.name) := KA.out.cell 2 rfl
 go_enter Tryz.func56, Tryz.ntmps56
 go_upto_region 1 with fail
 rw [← Hwx.out]
 clear Hwx
 go_wp2_with fail
 refine (writeTexts_lit B v l [s.node, s.id, s.name] _ 3 3 _ wx HO hBx (by omega) rfl rfl rfl (by omega) HS3.out).mono ?_
 rintro e w1 ⟨v1, rfl, ho1, hg1⟩
 have KA1 : Hid (Blk w1 w.heap.size (s.v (.slice ta s.tags.length tc)) 41) := row_grewB KA.out HO hg1 (by decide)
 have HG1 := HG.trans hg1
 have HA1 := HA.grew hg1
 have hB1 : B ≤ w1.heap.size := Nat.le_trans hBx hg1.size
 have hl1 : (l ++ txtsB [s.node, s.id, s.name]).length ≤ 35184372088832 + 192 := by have := HL3.out; simp only [List.length_append]; omega
 obtain ⟨l1, Hl1⟩ : ∃ x, Hid (x = l ++ txtsB [s.node, s.id, s.name]) := ⟨_, rfl⟩
 rw [← Hl1.out] at ho1 hl1
 clear c0 c1 c2 hg1 HO KA HG HA hBx
 have c3 : w1.cell? ⟨w.heap.size, 3, none⟩ = some (.int .i64 s.port) := KA1.out.cell 3 rfl
 go_wp2_with fail
 refine (writeNumber_calls B v1 l1 s.port 2 w1 ho1 hB1 (by omega) h4 (by omega) (by omega)).mono ?_
 rintro e w2 ⟨v2, rfl, ho2, hg2⟩
 have KA2 : Hid (Blk w2 w.heap.size (s.v (.slice ta s.tags.length tc)) 41) := row_grewB KA1.out ho1 hg2 (by decide)
 have HG2 := HG1.trans hg2
 have HA2 := HA1.grew hg2
 have hB2 : B ≤ w2.heap.size := Nat.le_trans hB1 hg2.size
 have hl2 : (l1 ++ big 2 s.port).length ≤ 35184372088832 + 194 := by simp only [List.length_append, big_length]; omega
 obtain ⟨l2, Hl2⟩ : ∃ x, Hid (x = l1 ++ big 2 s.port) := ⟨_, rfl⟩
 rw [← Hl2.out] at ho2 hl2
 clear c3 hg2 ho1 KA1 HG1 HA1 hB1
 have c4 : w2.cell? ⟨w.heap.size, 4, none⟩ = some (.slice ta s.tags.length tc) := KA2.out.cell 4 rfl
 have HN : Hid (bs [byteOf s.tags.length] = [.int .u8 (s.tags.length : Int)]) := by
  show _ = _
  rw [bs_lit, byteOf_val]
  rw [show (s.tags.length : Int) % 256 = s.tags.length by omega]
 obtain ⟨tl, Htl⟩ : ∃ x, Hid (x = s.tags.length) := ⟨_, rfl⟩
 rw [← Htl.out] at c4 HN h6 ⊢
 go_wp2_with (at_builtin; refine append_bytes _ rfl (.tmp 19) (.tmp 24) rfl B _ _ rfl (ho2.alloc _) ⟨w2.heap.size, 0, none⟩ 1 1 [byteOf tl] rfl rfl (by intro j u hj; rw [HN.out] at hj; exact cells_new _ _ _ j u hj) (by omega) (by simp; omega) ?_)
 intro v3 w3 ho3 hg3'
 have hg3 := hg3'.ofAlloc
 have KA3 : Hid (Blk w3 w.heap.size (s.v (.slice ta s.tags.length tc)) 41) := row_grewB KA2.out ho2 hg3 (by decide)
 have HG3 := HG2.trans hg3
 have HA3 := HA2.grew hg3
 have hB3 : B ≤ w3.heap.size := Nat.le_trans hB2 hg3.size
 have hl3 : (l2 ++ [byteOf tl]).length ≤ 35184372088832 + 195 := by simp only [List.length_append, List.length_cons, List.length_nil]; omega
 obtain ⟨l3, Hl3⟩ : ∃ x, Hid (x = l2 ++ [byteOf tl]) := ⟨_, rfl⟩
 rw [← Hl3.out] at ho3 hl3
 clear c4 hg3 hg3' ho2 KA2 HG2 HA2 hB2 HN
 have c4 : w3.cell? ⟨w.heap.size, 4, none⟩ = some (.slice ta tl tc) := by rw [Htl.out]; exact KA3.out.cell 4 rfl
 go_wp2_with fail
 rw [Htl.out]
 refine (writeTexts_calls B v3 l3 ta tc s.tags w3 ho3 hB3 (by omega) (by rw [← Htl.out]; omega) HS4.out HA3).mono ?_
 rintro e w4 ⟨v4, rfl, ho4, hg4⟩
 have HG4 := HG3.trans hg4
 have HF : Hid (Own w4 B v4 (l ++ svcB s)) := by
  show Own _ _ _ _
  have := ho4
  rw [Hl3.out, Hl2.out, Hl1.out, Htl.out] at this
  rw [HE.out]
  simpa only [List.append_assoc] using this
 clear hg4 ho4 ho3 KA3 HG3 HA3 hB3
 go_wp2
 go_ret
 exact ⟨_, rfl, HF.out, HG4⟩

set_option maxRecDepth 100000 in
set_option maxHeartbeats 2000000 in
theorem writeCheck_calls (B : Nat) (v : Value) (l : List UInt8) (s : Ck) (w : World) (hown : Own w B v l) (hB : B ≤ w.heap.size) (hl : l.length ≤ 35184372088832) (h1 : s.node.size ≤ 63) (h2 : s.id.size ≤ 63) (h3 : s.service.size ≤ 63) (h4 : 0 ≤ s.status) (h5 : s.status ≤ 3) (h6 : s.note.size ≤ 200) :
  Calls Tryz.prog 57 #[v, .agg s.v] w fun e w' => ∃ v', e = .returned v' ∧ Own w' B v' (l ++ chkB s) ∧ Grew w w' v v' := by
 obtain ⟨wx, Hwx⟩ : ∃ x, Hid (x = w.alloc (.cells s.v 45)) := ⟨_, rfl⟩
 have KA : Hid (Blk wx w.heap.size s.v 45) := by rw [Hwx.out]; exact Blk.new _ _ _
 have HO : Own wx B v l := by rw [Hwx.out]; exact hown.alloc _
 have hBx : B ≤ wx.heap.size := by rw [Hwx.out, size_new]; omega
 have HG : Grew w wx v v := by rw [Hwx.out]; exact (Grew.refl _ _).alloc _
 have HE : Hid (chkB s = txtsB [s.node, s.id, s.service] ++ [byteOf s.status] ++ txtsB [s.note]) := rfl
 have HL3 : Hid ((txtsB [s.node, s.id, s.service]).length ≤ 192) := by
  have := txtsB_take_le [s.node, s.id, s.service] 3 63 (by intro x hx; simp at hx; rcases hx with rfl | rfl | rfl <;> assumption)
  exact this
 have HS3 : Hid (∀ x ∈ [s.node, s.id, s.service], x.size ≤ 1048576) := by intro x hx; simp at hx; rcases hx with rfl | rfl | rfl <;> omega
 have HS4 : Hid (∀ x ∈ [s.note], x.size ≤ 1048576) := by intro x hx; simp at hx; subst hx; omega
 clear hown h1 h2 h3 h6
 have c0 : wx.cell? ⟨w.heap.size, 0, none⟩ = some (.string s.node) := KA.out.cell 0 rfl
 have c1 : wx.cell? ⟨w.heap.size, 1, none⟩ = some (.string s.id) := KA.out.cell 1 rfl
 have c2 : wx.cell? ⟨w.heap.size, 2, none⟩ = some (.string s.service) := KA.out.cell 2 rfl
 go_enter Tryz.func57, Tryz.ntmps57
 go_upto_region 1 with fail
 rw [← Hwx.out]
 clear Hwx
 go_wp2_with fail
 refine (writeTexts_lit B v l [s.node, s.id, s.service] _ 3 3 _ wx HO hBx (by omega) rfl rfl rfl (by omega) HS3.out).mono ?_
 rintro e w1 ⟨v1, rfl, ho1, hg1⟩
 have KA1 : Hid (Blk w1 w.heap.size s.v 45) := row_grewB KA.out HO hg1 (by decide)
 have HG1 := HG.trans hg1
 have hB1 : B ≤ w1.heap.size := Nat.le_trans hBx hg1.size
 have hl1 : (l ++ txtsB [s.node, s.id, s.service]).length ≤ 35184372088832 + 192 := by have := HL3.out; simp only [List.length_append]; omega
 obtain ⟨l1, Hl1⟩ : ∃ x, Hid (x = l ++ txtsB [s.node, s.id, s.service]) := ⟨_, rfl⟩
 rw [← Hl1.out] at ho1 hl1
 clear c0 c1 c2 hg1 HO KA HG hBx
 have c3 : w1.cell? ⟨w.heap.size, 3, none⟩ = some (.int .i64 s.status) := KA1.out.cell 3 rfl
 have HN : Hid (bs [byteOf s.status] = [.int .u8 s.status]) := by
  show _ = _
  rw [bs_lit, byteOf_val]
  rw [show s.status % 256 = s.status by omega]
 go_wp2_with (at_builtin; refine append_bytes _ rfl (.tmp 14) (.tmp 18) rfl B _ _ rfl (ho1.alloc _) ⟨w1.heap.size, 0, none⟩ 1 1 [byteOf s.status] rfl rfl (by intro j u hj; rw [HN.out] at hj; exact cells_new _ _ _ j u hj) (by omega) (by simp; omega) ?_)
 intro v3 w3 ho3 hg3'
 have hg3 := hg3'.ofAlloc
 have KA3 : Hid (Blk w3 w.heap.size s.v 45) := row_grewB KA1.out ho1 hg3 (by decide)
 have HG3 := HG1.trans hg3
 have hB3 : B ≤ w3.heap.size := Nat.le_trans hB1 hg3.size
 have hl3 : (l1 ++ [byteOf s.status]).length ≤ 35184372088832 + 195 := by simp only [List.length_append, List.length_cons, List.length_nil]; omega
 obtain ⟨l3, Hl3⟩ : ∃ x, Hid (x = l1 ++ [byteOf s.status]) := ⟨_, rfl⟩
 rw [← Hl3.out] at ho3 hl3
 clear c3 hg3 hg3' ho1 KA1 HG1 hB1 HN
 have c4 : w3.cell? ⟨w.heap.size, 4, none⟩ = some (.string s.note) := KA3.out.cell 4 rfl
 go_wp2_with fail
 refine (writeTexts_lit B v3 l3 [s.note] _ 1 1 _ w3 ho3 hB3 (by omega) rfl rfl rfl (by omega) HS4.out).mono ?_
 rintro e w4 ⟨v4, rfl, ho4, hg4⟩
 have HG4 := HG3.trans hg4
 have HF : Hid (Own w4 B v4 (l ++ chkB s)) := by
  show Own _ _ _ _
  have := ho4
  rw [Hl3.out, Hl1.out] at this
  rw [HE.out]
  simpa only [List.append_assoc] using this
 clear hg4 ho4 ho3 KA3 HG3 hB3
 go_wp2
 go_ret
 exact ⟨_, rfl, HF.out, HG4⟩
end Go.Proofs.YthgcnmilaifkoaaGreatDoor
