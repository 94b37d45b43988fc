/- Layer 13 (journal): writeOp. -/
import Derived.Test.YtmkohdepgfahnaaGreatDoorJW1
namespace Go.Proofs.YtmkohdepgfahnaaGreatDoor
open Go.RowKit
set_option linter.unusedVariables false

structure Opp.rng (o : Opp) : Prop where
  w0 : 0 ≤ o.want
  w1 : o.want ≤ 18446744073709551615

theorem snd_kind {o : Opp} (h : Snd o) : 1 ≤ o.kind ∧ o.kind ≤ 6 := by cases h <;> exact ⟨by simp, by simp⟩
theorem casB_le (o : Opp) : (casB o).length ≤ 9 := by
  unfold casB
  split
  · simp [big_length]
  · simp

set_option maxRecDepth 100000 in
set_option maxHeartbeats 2000000 in
theorem writeOp_calls (B : Nat) (v : Value) (l : List UInt8) (o : Opp) (ta : Option Addr) (tc : Nat) (w : World) (hs : Snd o) (hr : o.rng) (hown : Own w B v l) (hB : B ≤ w.heap.size) (hl : l.length ≤ 17592186044416) (hap : Apt w v ta (o.svc.tags.map Value.string)) :
    Calls Tryz.prog 37 #[v, .agg (o.v (.slice ta o.svc.tags.length tc))] w fun e w' => ∃ v', e = .returned v' ∧ Own w' B v' (l ++ opB o) ∧ Grew w w' v v' := by
  obtain ⟨wx, Hwx⟩ : ∃ x, Hid (x = w.alloc (.cells (o.v (.slice ta o.svc.tags.length tc)) 55)) := ⟨_, rfl⟩
  have KA : Hid (Blk wx w.heap.size (o.v (.slice ta o.svc.tags.length tc)) 55) := by rw [Hwx.out]; exact Blk.new _ _ _
  have HO : Own wx B v l := by rw [Hwx.out]; exact hown.alloc _
  have hBx : B ≤ wx.heap.size := by rw [Hwx.out, size_new]; omega
  have HG : Grew w wx v v := by rw [Hwx.out]; exact (Grew.refl _ _).alloc _
  have HA : Apt wx v ta (o.svc.tags.map Value.string) := by rw [Hwx.out]; exact hap.alloc _
  clear hown hap
  have c0 : wx.cell? ⟨w.heap.size, 0, none⟩ = some (.int .i64 o.kind) := KA.out.cell 0 rfl
  obtain ⟨hk1, hk6⟩ := snd_kind hs
  have HN : Hid (bs [byteOf o.kind] = [.int .u8 o.kind]) := by
    show _ = _
    rw [bs_lit, byteOf_val]
    rw [show o.kind % 256 = o.kind by omega]
  go_enter Tryz.func37, Tryz.ntmps37
  go_upto_region 1 with fail
  rw [← Hwx.out]
  clear Hwx
  go_wp2_with (at_builtin; refine append_bytes _ rfl (.tmp 5) (.tmp 9) rfl B _ _ rfl (HO.alloc _) ⟨wx.heap.size, 0, none⟩ 1 1 [byteOf o.kind] rfl rfl (by intro j u hj; rw [HN.out] at hj; exact cells_new _ _ _ j u hj) (by omega) (by simp; omega) ?_)
  intro v1 w1 ho1 hg1'
  have hg1 := hg1'.ofAlloc
  have KA1 : Hid (Blk w1 w.heap.size (o.v (.slice ta o.svc.tags.length tc)) 55) := row_grewB KA.out HO hg1 (by decide)
  have HG1 := HG.trans hg1
  have HA1 := HA.grew hg1
  have hB1 : B ≤ w1.heap.size := Nat.le_trans hBx hg1.size
  have hl1 : (l ++ [byteOf o.kind]).length ≤ 17592186044417 := by simp only [List.length_append, List.length_cons, List.length_nil]; omega
  obtain ⟨l1, Hl1⟩ : ∃ x, Hid (x = l ++ [byteOf o.kind]) := ⟨_, rfl⟩
  rw [← Hl1.out] at ho1 hl1
  clear c0 hg1 hg1' HO KA HG HA hBx HN
  go_upto_region 2 with fail
  iterate 5 go_step
  refine wp_get_op rfl KA1.out rfl rfl ?_
  go_wp2_with fail
  refine (writeCas_calls B v1 l1 o _ w1 ho1 hB1 (by omega) hr.w0 hr.w1).mono ?_
  rintro e w2 ⟨v2, rfl, ho2, hg2⟩
  have KA2 : Hid (Blk w2 w.heap.size (o.v (.slice ta o.svc.tags.length tc)) 55) := row_grewB KA1.out ho1 hg2 (by decide)
  have HG2 := HG1.trans hg2
  have HA2 := HA1.grew hg2
  have hB2 : B ≤ w2.heap.size := Nat.le_trans hB1 hg2.size
  have hl2 : (l1 ++ casB o).length ≤ 17592186044430 := by have := casB_le o; simp only [List.length_append]; omega
  obtain ⟨l2, Hl2⟩ : ∃ x, Hid (x = l1 ++ casB o) := ⟨_, rfl⟩
  rw [← Hl2.out] at ho2 hl2
  clear hg2 ho1 KA1 HG1 HA1 hB1
  have HE : Hid (∀ w' v', Own w' B v' (l2 ++ bodyB o) → Own w' B v' (l ++ opB o)) := by
    intro w' v' h
    rw [Hl2.out, Hl1.out] at h
    simpa only [opB, List.append_assoc, List.cons_append, List.nil_append] using h
  clear Hl1 Hl2 hk1 hk6 hl1
  cases hs with
  | node n a b x hx h1 h2 =>
    have c0 : w2.cell? ⟨w.heap.size, 0, none⟩ = some (.int .i64 1) := KA2.out.cell 0 rfl
    have c1 : w2.cell? ⟨w.heap.size, 1, none⟩ = some (.string n) := KA2.out.cell 1 rfl
    have c2 : w2.cell? ⟨w.heap.size, 2, none⟩ = some (.string a) := KA2.out.cell 2 rfl
    have HS : Hid (∀ x ∈ [n, a], x.size ≤ 1048576) := by intro x hx; simp at hx; rcases hx with rfl | rfl <;> omega
    clear hx KA2 HA2
    go_wp2_with fail
    refine (writeTexts_lit B v2 l2 [n, a] _ 2 2 _ w2 ho2 hB2 (by omega) rfl rfl rfl (by omega) HS.out).mono ?_
    rintro e w3 ⟨v3, rfl, ho3, hg3⟩
    have HG3 := HG2.trans hg3
    have HF := HE.out w3 v3 ho3
    clear ho3 hg3 HE
    go_wp2
    go_ret
    exact ⟨_, rfl, HF, HG3⟩
  | svc n i m p t b x hx h1 h2 h3 h4 h5 h6 h7 =>
    have c0 : w2.cell? ⟨w.heap.size, 0, none⟩ = some (.int .i64 2) := KA2.out.cell 0 rfl
    clear hx
    go_upto_region 7 with fail
    iterate 8 go_step
    refine wp_get_part (n := 7) (l := [.string n, .string i, .string m, .int .i64 p, .slice ta t.length tc, .int .u64 0, .int .u64 0]) rfl KA2.out rfl rfl Tryz.underlying51 rfl size_svc ?_
    go_wp2_with fail
    refine (writeService_calls B v2 l2 ⟨n, i, m, p, t, 0, 0⟩ ta tc w2 ho2 hB2 (by omega) h1 h2 h3 (by show (0 : Int) ≤ p; omega) h5 h6 h7 HA2).mono ?_
    rintro e w3 ⟨v3, rfl, ho3, hg3⟩
    have HG3 := HG2.trans hg3
    have HF := HE.out w3 v3 ho3
    clear ho3 hg3 HE
    go_wp2
    go_ret
    exact ⟨_, rfl, HF, HG3⟩
  | chk n i m p t b x hx h1 h2 h3 h4 h5 h6 =>
    have c0 : w2.cell? ⟨w.heap.size, 0, none⟩ = some (.int .i64 3) := KA2.out.cell 0 rfl
    clear hx
    go_upto_region 9 with fail
    iterate 8 go_step
    refine wp_get_part (n := 7) (l := [.string n, .string i, .string m, .int .i64 p, .string t, .int .u64 0, .int .u64 0]) rfl KA2.out rfl rfl Tryz.underlying53 rfl size_chk ?_
    go_wp2_with fail
    refine (writeCheck_calls B v2 l2 ⟨n, i, m, p, t, 0, 0⟩ w2 ho2 hB2 (by omega) h1 h2 h3 (by show (0 : Int) ≤ p; omega) h5 h6).mono ?_
    rintro e w3 ⟨v3, rfl, ho3, hg3⟩
    have HG3 := HG2.trans hg3
    have HF := HE.out w3 v3 ho3
    clear ho3 hg3 HE
    go_wp2
    go_ret
    exact ⟨_, rfl, HF, HG3⟩
  | dnode n b x hx h1 =>
    have c0 : w2.cell? ⟨w.heap.size, 0, none⟩ = some (.int .i64 4) := KA2.out.cell 0 rfl
    have c1 : w2.cell? ⟨w.heap.size, 1, none⟩ = some (.string n) := KA2.out.cell 1 rfl
    have HS : Hid (∀ x ∈ [n], x.size ≤ 1048576) := by intro x hx; simp at hx; subst hx; omega
    clear hx KA2 HA2
    go_wp2_with fail
    refine (writeTexts_lit B v2 l2 [n] _ 1 1 _ w2 ho2 hB2 (by omega) rfl rfl rfl (by omega) HS.out).mono ?_
    rintro e w3 ⟨v3, rfl, ho3, hg3⟩
    have HG3 := HG2.trans hg3
    have HF := HE.out w3 v3 ho3
    clear ho3 hg3 HE
    go_wp2
    go_ret
    exact ⟨_, rfl, HF, HG3⟩
  | dsvc n i b x hx h1 h2 =>
    have c0 : w2.cell? ⟨w.heap.size, 0, none⟩ = some (.int .i64 5) := KA2.out.cell 0 rfl
    have c5 : w2.cell? ⟨w.heap.size, 5, none⟩ = some (.string n) := KA2.out.cell 5 rfl
    have c6 : w2.cell? ⟨w.heap.size, 6, none⟩ = some (.string i) := KA2.out.cell 6 rfl
    have HS : Hid (∀ x ∈ [n, i], x.size ≤ 1048576) := by intro x hx; simp at hx; rcases hx with rfl | rfl <;> omega
    clear hx KA2 HA2
    go_wp2_with fail
    refine (writeTexts_lit B v2 l2 [n, i] _ 2 2 _ w2 ho2 hB2 (by omega) rfl rfl rfl (by omega) HS.out).mono ?_
    rintro e w3 ⟨v3, rfl, ho3, hg3⟩
    have HG3 := HG2.trans hg3
    have HF := HE.out w3 v3 ho3
    clear ho3 hg3 HE
    go_wp2
    go_ret
    exact ⟨_, rfl, HF, HG3⟩
  | dchk n i b x hx h1 h2 =>
    have c0 : w2.cell? ⟨w.heap.size, 0, none⟩ = some (.int .i64 6) := KA2.out.cell 0 rfl
    have c12 : w2.cell? ⟨w.heap.size, 12, none⟩ = some (.string n) := KA2.out.cell 12 rfl
    have c13 : w2.cell? ⟨w.heap.size, 13, none⟩ = some (.string i) := KA2.out.cell 13 rfl
    have HS : Hid (∀ x ∈ [n, i], x.size ≤ 1048576) := by intro x hx; simp at hx; rcases hx with rfl | rfl <;> omega
    clear hx KA2 HA2
    go_wp2_with fail
    refine (writeTexts_lit B v2 l2 [n, i] _ 2 2 _ w2 ho2 hB2 (by omega) rfl rfl rfl (by omega) HS.out).mono ?_
    rintro e w3 ⟨v3, rfl, ho3, hg3⟩
    have HG3 := HG2.trans hg3
    have HF := HE.out w3 v3 ho3
    clear ho3 hg3 HE
    go_wp2
    go_ret
    exact ⟨_, rfl, HF, HG3⟩
end Go.Proofs.YtmkohdepgfahnaaGreatDoor
