import Derived.Test.YtmkohdepgfahnaaGreatDoorJW1
import Derived.Test.YtmkohdepgfahnaaGreatDoorSGenB
import Derived.BigQuiet
import Derived.Deep.QuietTactic
/- Layer 13 (journal): writeOp. -/
namespace Go.Proofs.YtmkohdepgfahnaaGreatDoor
open Go.RowKit
set_option linter.unusedVariables false

structure Opp.rng (o : Opp) : Prop where
  w0 : 0 ≤ o.want
  w1 : o.want ≤ 18446744073709551615

theorem snd_kind {o : Opp} (h : Snd o) : 1 ≤ o.kind ∧ o.kind ≤ 6 := by cases h <;> exact ⟨by simp, by simp⟩
theorem casB_le (o : Opp) : (casB o).length ≤ 9 := by
  unfold casB
  split
  · simp [big_length]
  · simp

set_option maxRecDepth 100000 in
set_option maxHeartbeats 2000000 in
theorem writeOp_calls (B : Nat) (v : Value) (l : List UInt8) (o : Opp) (ta : Option Addr) (tc : Nat) (w : World) (hs : Snd o) (hr : o.rng) (hown : Own w B v l) (hB : B ≤ w.heap.size) (hl : l.length ≤ 17592186044416) (hap : Apt w v ta (o.svc.tags.map Value.string)) :
    Calls Tryz.prog 37 #[v, .agg (o.v (.slice ta o.svc.tags.length tc))] w fun e w' => ∃ v', e = .returned v' ∧ Own w' B v' (l ++ opB o) ∧ Grew w w' v v' := by
  obtain ⟨wx, Hwx⟩ : ∃ x, Hid (x = w.alloc (.cells (o.v (.slice ta o.svc.tags.length tc)) 55)) := ⟨_, rfl⟩
  have KA : Hid (Blk wx w.heap.size (o.v (.slice ta o.svc.tags.length tc)) 55) := by rw [Hwx.out]; exact Blk.new _ _ _
  have HO : Own wx B v l := by rw [Hwx.out]; exact hown.alloc _
  have hBx : B ≤ wx.heap.size := by rw [Hwx.out, size_new]; omega
  have HG : Grew w wx v v := by rw [Hwx.out]; exact (Grew.refl _ _).alloc _
  have HA : Apt wx v ta (o.svc.tags.map Value.string) := by rw [Hwx.out]; exact hap.alloc _
  clear hown hap
  have c0 : wx.cell? ⟨w.heap.size, 0, none⟩ = some (.int .i64 o.kind) := KA.out.cell 0 rfl
  obtain ⟨hk1, hk6⟩ := snd_kind hs
  have HN : Hid (bs [byteOf o.kind] = [.int .u8 o.kind]) := by
    show _ = _
    rw [bs_lit, byteOf_val]
    rw [show o.kind % 256 = o.kind by omega]
  go_enter Tryz.func37, Tryz.ntmps37
  go_upto_region 1 with fail
  rw [← Hwx.out]
  clear Hwx
  go_wp2_with (at_builtin; refine append_bytes _ rfl (.tmp 5) (.tmp 9) rfl B _ _ rfl (HO.alloc _) ⟨wx.heap.size, 0, none⟩ 1 1 [byteOf o.kind] rfl rfl (by intro j u hj; rw [HN.out] at hj; exact cells_new _ _ _ j u hj) (by omega) (by simp; omega) ?_)
  intro v1 w1 ho1 hg1'
  have hg1 := hg1'.ofAlloc
  have KA1 : Hid (Blk w1 w.heap.size (o.v (.slice ta o.svc.tags.length tc)) 55) := row_grewB KA.out HO hg1 (by decide)
  have HG1 := HG.trans hg1
  have HA1 := HA.grew hg1
  have hB1 : B ≤ w1.heap.size := Nat.le_trans hBx hg1.size
  have hl1 : (l ++ [byteOf o.kind]).length ≤ 17592186044417 := by simp only [List.length_append, List.length_cons, List.length_nil]; omega
  obtain ⟨l1, Hl1⟩ : ∃ x, Hid (x = l ++ [byteOf o.kind]) := ⟨_, rfl⟩
  rw [← Hl1.out] at ho1 hl1
  clear c0 hg1 hg1' HO KA HG HA hBx HN
  go_upto_region 2 with fail
  iterate 5 go_step
  refine wp_get_op rfl KA1.out rfl rfl ?_
  go_wp2_with fail
  refine (writeCas_calls B v1 l1 o _ w1 ho1 hB1 (by omega) hr.w0 hr.w1).mono ?_
  rintro e w2 ⟨v2, rfl, ho2, hg2⟩
  have KA2 : Hid (Blk w2 w.heap.size (o.v (.slice ta o.svc.tags.length tc)) 55) := row_grewB KA1.out ho1 hg2 (by decide)
  have HG2 := HG1.trans hg2
  have HA2 := HA1.grew hg2
  have hB2 : B ≤ w2.heap.size := Nat.le_trans hB1 hg2.size
  have hl2 : (l1 ++ casB o).length ≤ 17592186044430 := by have := casB_le o; simp only [List.length_append]; omega
  obtain ⟨l2, Hl2⟩ : ∃ x, Hid (x = l1 ++ casB o) := ⟨_, rfl⟩
  rw [← Hl2.out] at ho2 hl2
  clear hg2 ho1 KA1 HG1 HA1 hB1
  have HE : Hid (∀ w' v', Own w' B v' (l2 ++ bodyB o) → Own w' B v' (l ++ opB o)) := by
    intro w' v' h
    rw [Hl2.out, Hl1.out] at h
    simpa only [opB, List.append_assoc, List.cons_append, List.nil_append] using h
  clear Hl1 Hl2 hk1 hk6 hl1
  cases hs with
  | node n a b x hx h1 h2 =>
    have c0 : w2.cell? ⟨w.heap.size, 0, none⟩ = some (.int .i64 1) := KA2.out.cell 0 rfl
    have c1 : w2.cell? ⟨w.heap.size, 1, none⟩ = some (.string n) := KA2.out.cell 1 rfl
    have c2 : w2.cell? ⟨w.heap.size, 2, none⟩ = some (.string a) := KA2.out.cell 2 rfl
    have HS : Hid (∀ x ∈ [n, a], x.size ≤ 1048576) := by intro x hx; simp at hx; rcases hx with rfl | rfl <;> omega
    clear hx KA2 HA2
    go_wp2_with fail
    refine (writeTexts_lit B v2 l2 [n, a] _ 2 2 _ w2 ho2 hB2 (by omega) rfl rfl rfl (by omega) HS.out).mono ?_
    rintro e w3 ⟨v3, rfl, ho3, hg3⟩
    have HG3 := HG2.trans hg3
    have HF := HE.out w3 v3 ho3
    clear ho3 hg3 HE
    go_wp2
    go_ret
    exact ⟨_, rfl, HF, HG3⟩
  | svc n i m p t b x hx h1 h2 h3 h4 h5 h6 h7 =>
    have c0 : w2.cell? ⟨w.heap.size, 0, none⟩ = some (.int .i64 2) := KA2.out.cell 0 rfl
    clear hx
    go_upto_region 7 with fail
    iterate 8 go_step
    refine wp_get_part (n := 7) (l := [.string n, .string i, .string m, .int .i64 p, .slice ta t.length tc, .int .u64 0, .int .u64 0]) rfl KA2.out rfl rfl Tryz.underlying51 rfl size_svc ?_
    go_wp2_with fail
    refine (writeService_calls B v2 l2 ⟨n, i, m, p, t, 0, 0⟩ ta tc w2 ho2 hB2 (by omega) h1 h2 h3 (by show (0 : Int) ≤ p; omega) h5 h6 h7 HA2).mono ?_
    rintro e w3 ⟨v3, rfl, ho3, hg3⟩
    have HG3 := HG2.trans hg3
    have HF := HE.out w3 v3 ho3
    clear ho3 hg3 HE
    go_wp2
    go_ret
    exact ⟨_, rfl, HF, HG3⟩
  | chk n i m p t b x hx h1 h2 h3 h4 h5 h6 =>
    have c0 : w2.cell? ⟨w.heap.size, 0, none⟩ = some (.int .i64 3) := KA2.out.cell 0 rfl
    clear hx
    go_upto_region 9 with fail
    iterate 8 go_step
    refine wp_get_part (n := 7) (l := [.string n, .string i, .string m, .int .i64 p, .string t, .int .u64 0, .int .u64 0]) rfl KA2.out rfl rfl Tryz.underlying53 rfl size_chk ?_
    go_wp2_with fail
    refine (writeCheck_calls B v2 l2 ⟨n, i, m, p, t, 0, 0⟩ w2 ho2 hB2 (by omega) h1 h2 h3 (by show (0 : Int) ≤ p; omega) h5 h6).mono ?_
    rintro e w3 ⟨v3, rfl, ho3, hg3⟩
    have HG3 := HG2.trans hg3
    have HF := HE.out w3 v3 ho3
    clear ho3 hg3 HE
    go_wp2
    go_ret
    exact ⟨_, rfl, HF, HG3⟩
  | dnode n b x hx h1 =>
    have c0 : w2.cell? ⟨w.heap.size, 0, none⟩ = some (.int .i64 4) := KA2.out.cell 0 rfl
    have c1 : w2.cell? ⟨w.heap.size, 1, none⟩ = some (.string n) := KA2.out.cell 1 rfl
    have HS : Hid (∀ x ∈ [n], x.size ≤ 1048576) := by intro x hx; simp at hx; subst hx; omega
    clear hx KA2 HA2
    go_wp2_with fail
    refine (writeTexts_lit B v2 l2 [n] _ 1 1 _ w2 ho2 hB2 (by omega) rfl rfl rfl (by omega) HS.out).mono ?_
    rintro e w3 ⟨v3, rfl, ho3, hg3⟩
    have HG3 := HG2.trans hg3
    have HF := HE.out w3 v3 ho3
    clear ho3 hg3 HE
    go_wp2
    go_ret
    exact ⟨_, rfl, HF, HG3⟩
  | dsvc n i b x hx h1 h2 =>
    have c0 : w2.cell? ⟨w.heap.size, 0, none⟩ = some (.int .i64 5) := KA2.out.cell 0 rfl
    have c5 : w2.cell? ⟨w.heap.size, 5, none⟩ = some (.string n) := KA2.out.cell 5 rfl
    have c6 : w2.cell? ⟨w.heap.size, 6, none⟩ = some (.string i) := KA2.out.cell 6 rfl
    have HS : Hid (∀ x ∈ [n, i], x.size ≤ 1048576) := by intro x hx; simp at hx; rcases hx with rfl | rfl <;> omega
    clear hx KA2 HA2
    go_wp2_with fail
    refine (writeTexts_lit B v2 l2 [n, i] _ 2 2 _ w2 ho2 hB2 (by omega) rfl rfl rfl (by omega) HS.out).mono ?_
    rintro e w3 ⟨v3, rfl, ho3, hg3⟩
    have HG3 := HG2.trans hg3
    have HF := HE.out w3 v3 ho3
    clear ho3 hg3 HE
    go_wp2
    go_ret
    exact ⟨_, rfl, HF, HG3⟩
  | dchk n i b x hx h1 h2 =>
    have c0 : w2.cell? ⟨w.heap.size, 0, none⟩ = some (.int .i64 6) := KA2.out.cell 0 rfl
    have c12 : w2.cell? ⟨w.heap.size, 12, none⟩ = some (.string n) := KA2.out.cell 12 rfl
    have c13 : w2.cell? ⟨w.heap.size, 13, none⟩ = some (.string i) := KA2.out.cell 13 rfl
    have HS : Hid (∀ x ∈ [n, i], x.size ≤ 1048576) := by intro x hx; simp at hx; rcases hx with rfl | rfl <;> omega
    clear hx KA2 HA2
    go_wp2_with fail
    refine (writeTexts_lit B v2 l2 [n, i] _ 2 2 _ w2 ho2 hB2 (by omega) rfl rfl rfl (by omega) HS.out).mono ?_
    rintro e w3 ⟨v3, rfl, ho3, hg3⟩
    have HG3 := HG2.trans hg3
    have HF := HE.out w3 v3 ho3
    clear ho3 hg3 HE
    go_wp2
    go_ret
    exact ⟨_, rfl, HF, HG3⟩
end Go.Proofs.YtmkohdepgfahnaaGreatDoor

/- Layer 13 (journal): slices.Equal of texts. -/
namespace Go.Proofs.YtmkohdepgfahnaaGreatDoor
open Go.RowKit
set_option linter.unusedVariables false
set_option linter.unusedSimpArgs false

theorem txt_no {l m : List ByteArray} {k : Nat} (h1 : k < l.length) (h2 : k < m.length) (h : l[k] ≠ m[k]) : decide (l = m) = false := by
  rw [decide_eq_false_iff_not]
  intro e
  subst e
  exact h rfl
theorem txt_yes {l m : List ByteArray} (hl : l.length = m.length) (h : ∀ i (h1 : i < l.length) (h2 : i < m.length), l[i] = m[i]) : l = m := List.ext_getElem hl fun i h1 h2 => h i h1 h2

set_option maxRecDepth 100000 in
set_option maxHeartbeats 1000000 in
theorem equalT_calls (ao bo : Option Addr) (ca cb : Nat) (l m : List ByteArray) (w : World) (hl : l.length ≤ 140737488355328) (hm : m.length ≤ 140737488355328) (ha : CellsAt w ao (l.map Value.string)) (hb : CellsAt w bo (m.map Value.string)) :
    Calls Tryz.prog 86 #[.slice ao l.length ca, .slice bo m.length cb] w fun e w' => e = .returned (.bool (decide (l = m))) ∧ ∃ n, w' = w.drewN n := by
  obtain ⟨R, HR⟩ : ∃ R, Hid (R = decide (l = m)) := ⟨_, rfl⟩
  rw [← HR.out]
  by_cases hlen : l.length = m.length
  · have hq : ((l.length : Int) != (m.length : Int)) = false := by simp; omega
    obtain ⟨n, Hn⟩ : ∃ n, Hid (n = m.length) := ⟨_, rfl⟩
    rw [← Hn.out] at hlen hm hq ⊢
    obtain ⟨n', Hn'⟩ : ∃ n', Hid (n' = l.length) := ⟨_, rfl⟩
    rw [← Hn'.out] at hlen hl hq ⊢
    subst hlen
    go_enter Tryz.func86, Tryz.ntmps86
    go_wp2
    go_loopw [13] (fun i wr => ∃ k : Nat, k ≤ n' ∧ i = .int .i64 k ∧ Hid (∀ j (h1 : j < l.length) (h2 : j < m.length), j < k → l[j] = m[j]) ∧ ∃ q, wr = w.drewN q) (fun i _ => n' - (intOf i).toNat)
    case atStart => exact ⟨0, Nat.zero_le _, rfl, fun _ _ _ h => absurd h (Nat.not_lt_zero _), 0, rfl⟩
    case round =>
      obtain ⟨k, hk, rfl, HS, hdq⟩ := hrel
      have HQ : Hid (∃ q, wr = w.drewN q) := hdq
      have hbw : Below w.heap.size w wr := by obtain ⟨q, rfl⟩ := hdq; exact below_draws w q
      have HQ2 : Hid (∀ n, ∃ q, wr.drewN n = w.drewN q) := by intro n; obtain ⟨q, rfl⟩ := hdq; exact ⟨_, World.drewN_drewN _ _ _⟩
      clear hdq
      by_cases hlt : k < n'
      · have k1 : k < l.length := by rw [← Hn'.out]; exact hlt
        have k2 : k < m.length := by rw [← Hn.out]; exact hlt
        obtain ⟨b, off, rfl, hc⟩ := (ha.below hbw).str k k1
        obtain ⟨b2, off2, rfl, hc2⟩ := (hb.below hbw).str k k2
        obtain ⟨c, Hc⟩ : ∃ c, Hid (c = l[k]'k1) := ⟨_, rfl⟩
        obtain ⟨d, Hd⟩ : ∃ d, Hid (d = m[k]'k2) := ⟨_, rfl⟩
        rw [← Hc.out] at hc
        rw [← Hd.out] at hc2
        by_cases he : c = d
        · have HS2 : Hid (∀ j (h1 : j < l.length) (h2 : j < m.length), j < k + 1 → l[j] = m[j]) := by
            intro j h1 h2 h3
            by_cases hj : j = k
            · subst hj
              have := Hc.out.symm.trans (he.trans Hd.out)
              exact this
            · exact HS.out j h1 h2 (by omega)
          clear Hc Hd HS k1 k2
          subst he
          have hqq : (c.toList == c.toList) = true := beq_self_eq_true _
          go_wp2_with fail
          go_quiet (fail)
          go_wp2
          go_roundw
          case rel => exact ⟨k + 1, by omega, by go_num, HS2, HQ2.out _⟩
          case measure => simp [intOf]; omega
        · have HF : Hid (R = false) := by
            show _ = _
            rw [HR.out]
            exact txt_no k1 k2 (by rw [← Hc.out, ← Hd.out]; exact he)
          have hqq : (c.toList == d.toList) = false := by rw [beq_toList]; simpa using he
          clear Hc Hd HS k1 k2
          go_wp2_with fail
          go_quiet (fail)
          go_wp2
          go_ret
          exact ⟨by rw [HF.out]; rfl, HQ2.out _⟩
      · have HT : Hid (R = true) := by
          show _ = _
          rw [HR.out, decide_eq_true_eq]
          exact txt_yes (by rw [← Hn.out, ← Hn'.out]) fun j h1 h2 => HS.out j h1 h2 (by rw [← Hn'.out] at h1; omega)
        go_wp2
        go_ret
        exact ⟨by rw [HT.out]; rfl, HQ.out⟩
  · have HF : Hid (R = false) := by
      show _ = _
      rw [HR.out, decide_eq_false_iff_not]
      intro e
      subst e
      exact hlen rfl
    have hq : ((l.length : Int) != (m.length : Int)) = true := by simp; omega
    obtain ⟨n, Hn⟩ : ∃ n, Hid (n = m.length) := ⟨_, rfl⟩
    obtain ⟨n', Hn'⟩ : ∃ n', Hid (n' = l.length) := ⟨_, rfl⟩
    rw [← Hn.out] at hq ⊢
    rw [← Hn'.out] at hq ⊢
    clear hlen
    go_enter Tryz.func86, Tryz.ntmps86
    go_wp2
    go_ret
    exact ⟨by rw [HF.out]; rfl, 0, rfl⟩
end Go.Proofs.YtmkohdepgfahnaaGreatDoor
