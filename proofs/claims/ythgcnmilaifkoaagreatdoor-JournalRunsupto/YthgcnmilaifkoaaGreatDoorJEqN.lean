import Derived.Test.YthgcnmilaifkoaaGreatDoorJW1
import Derived.Test.YthgcnmilaifkoaaGreatDoorKLaw
import Derived.BigQuiet
import Derived.Deep.QuietTactic
import Derived.Test.YthgcnmilaifkoaaGreatDoorJPay
import Derived.Test.YthgcnmilaifkoaaGreatDoorRcCopyS
import Derived.Laws.StructEq
/- Layer 13 (journal): writeOp. -/
namespace Go.Proofs.YthgcnmilaifkoaaGreatDoor
open Go.RowKit
set_option linter.unusedVariables false

structure Opp.rng (o : Opp) : Prop where
 w0 : 0 ≤ o.want
 w1 : o.want ≤ 18446744073709551615

theorem snd_kind {o : Opp} (h : Snd o) : 1 ≤ o.kind ∧ o.kind ≤ 6 := by cases h <;> exact ⟨by simp, by simp⟩
theorem casB_le (o : Opp) : (casB o).length ≤ 9 := by
 unfold casB
 split
 ·simp [big_length]
 ·simp

set_option maxRecDepth 100000 in
set_option maxHeartbeats 2000000 in
theorem writeOp_calls (B : Nat) (v : Value) (l : List UInt8) (o : Opp) (ta : Option Addr) (tc : Nat) (w : World) (hs : Snd o) (hr : o.rng) (hown : Own w B v l) (hB : B ≤ w.heap.size) (hl : l.length ≤ 17592186044416) (hap : Apt w v ta (o.svc.tags.map Value.string)) :
  Calls Tryz.prog 39 #[v, .agg (o.v (.slice ta o.svc.tags.length tc))] w fun e w' => ∃ v', e = .returned v' ∧ Own w' B v' (l ++ opB o) ∧ Grew w w' v v' := by
 obtain ⟨wx, Hwx⟩ : ∃ x, Hid (x = w.alloc (.cells (o.v (.slice ta o.svc.tags.length tc)) 47)) := ⟨_, rfl⟩
 have KA : Hid (Blk wx w.heap.size (o.v (.slice ta o.svc.tags.length tc)) 47) := by rw [Hwx.out]; exact Blk.new _ _ _
 have HO : Own wx B v l := by rw [Hwx.out]; exact hown.alloc _
 have hBx : B ≤ wx.heap.size := by rw [Hwx.out, size_new]; omega
 have HG : Grew w wx v v := by rw [Hwx.out]; exact (Grew.refl _ _).alloc _
 have HA : Apt wx v ta (o.svc.tags.map Value.string) := by rw [Hwx.out]; exact hap.alloc _
 clear hown hap
 have c0 : wx.cell? ⟨w.heap.size, 0, none⟩ = some (.int .i64 o.kind) := KA.out.cell 0 rfl
 obtain ⟨hk1, hk6⟩ := snd_kind hs
 have HN : Hid (bs [byteOf o.kind] = [.int .u8 o.kind]) := by
  show _ = _
  rw [bs_lit, byteOf_val]
  rw [show o.kind % 256 = o.kind by omega]
 go_enter Tryz.func39, Tryz.ntmps39
 go_upto_region 1 with fail
 rw [← Hwx.out]
 clear Hwx
 go_wp2_with (at_builtin; refine append_bytes _ rfl (.tmp 5) (.tmp 9) rfl B _ _ rfl (HO.alloc _) ⟨wx.heap.size, 0, none⟩ 1 1 [byteOf o.kind] rfl rfl (by intro j u hj; rw [HN.out] at hj; exact cells_new _ _ _ j u hj) (by omega) (by simp; omega) ?_)
 intro v1 w1 ho1 hg1'
 have hg1 := hg1'.ofAlloc
 have KA1 : Hid (Blk w1 w.heap.size (o.v (.slice ta o.svc.tags.length tc)) 47) := row_grewB KA.out HO hg1 (by decide)
 have HG1 := HG.trans hg1
 have HA1 := HA.grew hg1
 have hB1 : B ≤ w1.heap.size := Nat.le_trans hBx hg1.size
 have hl1 : (l ++ [byteOf o.kind]).length ≤ 17592186044417 := by simp only [List.length_append, List.length_cons, List.length_nil]; omega
 obtain ⟨l1, Hl1⟩ : ∃ x, Hid (x = l ++ [byteOf o.kind]) := ⟨_, rfl⟩
 rw [← Hl1.out] at ho1 hl1
 clear c0 hg1 hg1' HO KA HG HA hBx HN
 go_upto_region 2 with fail
 iterate 5 go_step
 refine wp_get_op rfl KA1.out rfl rfl ?_
 go_wp2_with fail
 refine (writeCas_calls B v1 l1 o _ w1 ho1 hB1 (by omega) hr.w0 hr.w1).mono ?_
 rintro e w2 ⟨v2, rfl, ho2, hg2⟩
 have KA2 : Hid (Blk w2 w.heap.size (o.v (.slice ta o.svc.tags.length tc)) 47) := row_grewB KA1.out ho1 hg2 (by decide)
 have HG2 := HG1.trans hg2
 have HA2 := HA1.grew hg2
 have hB2 : B ≤ w2.heap.size := Nat.le_trans hB1 hg2.size
 have hl2 : (l1 ++ casB o).length ≤ 17592186044430 := by have := casB_le o; simp only [List.length_append]; omega
 obtain ⟨l2, Hl2⟩ : ∃ x, Hid (x = l1 ++ casB o) := ⟨_, rfl⟩
 rw [← Hl2.out] at ho2 hl2
 clear hg2 ho1 KA1 HG1 HA1 hB1
 have HE : Hid (∀ w' v', Own w' B v' (l2 ++ bodyB o) → Own w' B v' (l ++ opB o)) := by
  intro w' v' h
  rw [Hl2.out, Hl1.out] at h
  simpa only [opB, List.append_assoc, List.cons_append, List.nil_append] using h
 clear Hl1 Hl2 hk1 hk6 hl1
 cases hs with
 | node n a b x hx h1 h2 =>
  have c0 : w2.cell? ⟨w.heap.size, 0, none⟩ = some (.int .i64 1) := KA2.out.cell 0 rfl
  have c1 : w2.cell? ⟨w.heap.size, 1, none⟩ = some (.string n) := KA2.out.cell 1 rfl
  have c2 : w2.cell? ⟨w.heap.size, 2, none⟩ = some (.string a) := KA2.out.cell 2 rfl
  have HS : Hid (∀ x ∈ [n, a], x.size ≤ 1048576) := by intro x hx; simp at hx; rcases hx with rfl | rfl <;> omega
  clear hx KA2 HA2
  go_wp2_with fail
  refine (writeTexts_lit B v2 l2 [n, a] _ 2 2 _ w2 ho2 hB2 (by omega) rfl rfl rfl (by omega) HS.out).mono ?_
  rintro e w3 ⟨v3, rfl, ho3, hg3⟩
  have HG3 := HG2.trans hg3
  have HF := HE.out w3 v3 ho3
  clear ho3 hg3 HE
  go_wp2
  go_ret
  exact ⟨_, rfl, HF, HG3⟩
 | svc n i m p t b x hx h1 h2 h3 h4 h5 h6 h7 =>
  have c0 : w2.cell? ⟨w.heap.size, 0, none⟩ = some (.int .i64 2) := KA2.out.cell 0 rfl
  clear hx
  go_upto_region 7 with fail
  iterate 8 go_step
  refine wp_get_part (n := 7) (l := [.string n, .string i, .string m, .int .i64 p, .slice ta t.length tc, .int .u64 0, .int .u64 0]) rfl KA2.out rfl rfl Tryz.underlying41 rfl size_svc ?_
  go_wp2_with fail
  refine (writeService_calls B v2 l2 ⟨n, i, m, p, t, 0, 0⟩ ta tc w2 ho2 hB2 (by omega) h1 h2 h3 (by show (0 : Int) ≤ p; omega) h5 h6 h7 HA2).mono ?_
  rintro e w3 ⟨v3, rfl, ho3, hg3⟩
  have HG3 := HG2.trans hg3
  have HF := HE.out w3 v3 ho3
  clear ho3 hg3 HE
  go_wp2
  go_ret
  exact ⟨_, rfl, HF, HG3⟩
 | chk n i m p t b x hx h1 h2 h3 h4 h5 h6 =>
  have c0 : w2.cell? ⟨w.heap.size, 0, none⟩ = some (.int .i64 3) := KA2.out.cell 0 rfl
  clear hx
  go_upto_region 9 with fail
  iterate 8 go_step
  refine wp_get_part (n := 7) (l := [.string n, .string i, .string m, .int .i64 p, .string t, .int .u64 0, .int .u64 0]) rfl KA2.out rfl rfl Tryz.underlying45 rfl size_chk ?_
  go_wp2_with fail
  refine (writeCheck_calls B v2 l2 ⟨n, i, m, p, t, 0, 0⟩ w2 ho2 hB2 (by omega) h1 h2 h3 (by show (0 : Int) ≤ p; omega) h5 h6).mono ?_
  rintro e w3 ⟨v3, rfl, ho3, hg3⟩
  have HG3 := HG2.trans hg3
  have HF := HE.out w3 v3 ho3
  clear ho3 hg3 HE
  go_wp2
  go_ret
  exact ⟨_, rfl, HF, HG3⟩
 | dnode n b x hx h1 =>
  have c0 : w2.cell? ⟨w.heap.size, 0, none⟩ = some (.int .i64 4) := KA2.out.cell 0 rfl
  have c1 : w2.cell? ⟨w.heap.size, 1, none⟩ = some (.string n) := KA2.out.cell 1 rfl
  have HS : Hid (∀ x ∈ [n], x.size ≤ 1048576) := by intro x hx; simp at hx; subst hx; omega
  clear hx KA2 HA2
  go_wp2_with fail
  refine (writeTexts_lit B v2 l2 [n] _ 1 1 _ w2 ho2 hB2 (by omega) rfl rfl rfl (by omega) HS.out).mono ?_
  rintro e w3 ⟨v3, rfl, ho3, hg3⟩
  have HG3 := HG2.trans hg3
  have HF := HE.out w3 v3 ho3
  clear ho3 hg3 HE
  go_wp2
  go_ret
  exact ⟨_, rfl, HF, HG3⟩
 | dsvc n i b x hx h1 h2 =>
  have c0 : w2.cell? ⟨w.heap.size, 0, none⟩ = some (.int .i64 5) := KA2.out.cell 0 rfl
  have c5 : w2.cell? ⟨w.heap.size, 5, none⟩ = some (.string n) := KA2.out.cell 5 rfl
  have c6 : w2.cell? ⟨w.heap.size, 6, none⟩ = some (.string i) := KA2.out.cell 6 rfl
  have HS : Hid (∀ x ∈ [n, i], x.size ≤ 1048576) := by intro x hx; simp at hx; rcases hx with rfl | rfl <;> omega
  clear hx KA2 HA2
  go_wp2_with fail
  refine (writeTexts_lit B v2 l2 [n, i] _ 2 2 _ w2 ho2 hB2 (by omega) rfl rfl rfl (by omega) HS.out).mono ?_
  rintro e w3 ⟨v3, rfl, ho3, hg3⟩
  have HG3 := HG2.trans hg3
  have HF := HE.out w3 v3 ho3
  clear ho3 hg3 HE
  go_wp2
  go_ret
  exact ⟨_, rfl, HF, HG3⟩
 | dchk n i b x hx h1 h2 =>
  have c0 : w2.cell? ⟨w.heap.size, 0, none⟩ = some (.int .i64 6) := KA2.out.cell 0 rfl
  have c12 : w2.cell? ⟨w.heap.size, 12, none⟩ = some (.string n) := KA2.out.cell 12 rfl
  have c13 : w2.cell? ⟨w.heap.size, 13, none⟩ = some (.string i) := KA2.out.cell 13 rfl
  have HS : Hid (∀ x ∈ [n, i], x.size ≤ 1048576) := by intro x hx; simp at hx; rcases hx with rfl | rfl <;> omega
  clear hx KA2 HA2
  go_wp2_with fail
  refine (writeTexts_lit B v2 l2 [n, i] _ 2 2 _ w2 ho2 hB2 (by omega) rfl rfl rfl (by omega) HS.out).mono ?_
  rintro e w3 ⟨v3, rfl, ho3, hg3⟩
  have HG3 := HG2.trans hg3
  have HF := HE.out w3 v3 ho3
  clear ho3 hg3 HE
  go_wp2
  go_ret
  exact ⟨_, rfl, HF, HG3⟩
end Go.Proofs.YthgcnmilaifkoaaGreatDoor

/- Layer 13 (journal): slices.Equal of texts. -/
namespace Go.Proofs.YthgcnmilaifkoaaGreatDoor
open Go.RowKit
set_option linter.unusedVariables false
set_option linter.unusedSimpArgs false

theorem txt_no {l m : List ByteArray} {k : Nat} (h1 : k < l.length) (h2 : k < m.length) (h : l[k] ≠ m[k]) : decide (l = m) = false := by
 rw [decide_eq_false_iff_not]
 intro e
 subst e
 exact h rfl
theorem txt_yes {l m : List ByteArray} (hl : l.length = m.length) (h : ∀ i (h1 : i < l.length) (h2 : i < m.length), l[i] = m[i]) : l = m := List.ext_getElem hl fun i h1 h2 => h i h1 h2

set_option maxRecDepth 100000 in
set_option maxHeartbeats 1000000 in
theorem equalT_calls (ao bo : Option Addr) (ca cb : Nat) (l m : List ByteArray) (w : World) (hl : l.length ≤ 140737488355328) (hm : m.length ≤ 140737488355328) (ha : CellsAt w ao (l.map Value.string)) (hb : CellsAt w bo (m.map Value.string)) :
  Calls Tryz.prog 86 #[.slice ao l.length ca, .slice bo m.length cb] w fun e w' => e = .returned (.bool (decide (l = m))) ∧ ∃ n, w' = w.drewN n := by
 obtain ⟨R, HR⟩ : ∃ R, Hid (R = decide (l = m)) := ⟨_, rfl⟩
 rw [← HR.out]
 by_cases hlen : l.length = m.length
 ·have hq : ((l.length : Int) != (m.length : Int)) = false := by simp; omega
  obtain ⟨n, Hn⟩ : ∃ n, Hid (n = m.length) := ⟨_, rfl⟩
  rw [← Hn.out] at hlen hm hq ⊢
  obtain ⟨n', Hn'⟩ : ∃ n', Hid (n' = l.length) := ⟨_, rfl⟩
  rw [← Hn'.out] at hlen hl hq ⊢
  subst hlen
  go_enter Tryz.func86, Tryz.ntmps86
  go_wp2
  go_loopw [13] (fun i wr => ∃ k : Nat, k ≤ n' ∧ i = .int .i64 k ∧ Hid (∀ j (h1 : j < l.length) (h2 : j < m.length), j < k → l[j] = m[j]) ∧ ∃ q, wr = w.drewN q) (fun i _ => n' - (intOf i).toNat)
  case atStart => exact ⟨0, Nat.zero_le _, rfl, fun _ _ _ h => absurd h (Nat.not_lt_zero _), 0, rfl⟩
  case round =>
   obtain ⟨k, hk, rfl, HS, hdq⟩ := hrel
   have HQ : Hid (∃ q, wr = w.drewN q) := hdq
   have hbw : Below w.heap.size w wr := by obtain ⟨q, rfl⟩ := hdq; exact below_draws w q
   have HQ2 : Hid (∀ n, ∃ q, wr.drewN n = w.drewN q) := by intro n; obtain ⟨q, rfl⟩ := hdq; exact ⟨_, World.drewN_drewN _ _ _⟩
   clear hdq
   by_cases hlt : k < n'
   ·have k1 : k < l.length := by rw [← Hn'.out]; exact hlt
    have k2 : k < m.length := by rw [← Hn.out]; exact hlt
    obtain ⟨b, off, rfl, hc⟩ := (ha.below hbw).str k k1
    obtain ⟨b2, off2, rfl, hc2⟩ := (hb.below hbw).str k k2
    obtain ⟨c, Hc⟩ : ∃ c, Hid (c = l[k]'k1) := ⟨_, rfl⟩
    obtain ⟨d, Hd⟩ : ∃ d, Hid (d = m[k]'k2) := ⟨_, rfl⟩
    rw [← Hc.out] at hc
    rw [← Hd.out] at hc2
    by_cases he : c = d
    ·have HS2 : Hid (∀ j (h1 : j < l.length) (h2 : j < m.length), j < k + 1 → l[j] = m[j]) := by
      intro j h1 h2 h3
      by_cases hj : j = k
      ·subst hj
       have := Hc.out.symm.trans (he.trans Hd.out)
       exact this
      ·exact HS.out j h1 h2 (by omega)
     clear Hc Hd HS k1 k2
     subst he
     have hqq : (c.toList == c.toList) = true := beq_self_eq_true _
     go_wp2_with fail
     go_quiet (fail)
     go_wp2
     go_roundw
     case rel => exact ⟨k + 1, by omega, by go_num, HS2, HQ2.out _⟩
     case measure => simp [intOf]; omega
    ·have HF : Hid (R = false) := by
      show _ = _
      rw [HR.out]
      exact txt_no k1 k2 (by rw [← Hc.out, ← Hd.out]; exact he)
     have hqq : (c.toList == d.toList) = false := by rw [beq_toList]; simpa using he
     clear Hc Hd HS k1 k2
     go_wp2_with fail
     go_quiet (fail)
     go_wp2
     go_ret
     exact ⟨by rw [HF.out]; rfl, HQ2.out _⟩
   ·have HT : Hid (R = true) := by
     show _ = _
     rw [HR.out, decide_eq_true_eq]
     exact txt_yes (by rw [← Hn.out, ← Hn'.out]) fun j h1 h2 => HS.out j h1 h2 (by rw [← Hn'.out] at h1; omega)
    go_wp2
    go_ret
    exact ⟨by rw [HT.out]; rfl, HQ.out⟩
 ·have HF : Hid (R = false) := by
   show _ = _
   rw [HR.out, decide_eq_false_iff_not]
   intro e
   subst e
   exact hlen rfl
  have hq : ((l.length : Int) != (m.length : Int)) = true := by simp; omega
  obtain ⟨n, Hn⟩ : ∃ n, Hid (n = m.length) := ⟨_, rfl⟩
  obtain ⟨n', Hn'⟩ : ∃ n', Hid (n' = l.length) := ⟨_, rfl⟩
  rw [← Hn.out] at hq ⊢
  rw [← Hn'.out] at hq ⊢
  clear hlen
  go_enter Tryz.func86, Tryz.ntmps86
  go_wp2
  go_ret
  exact ⟨by rw [HF.out]; rfl, 0, rfl⟩
end Go.Proofs.YthgcnmilaifkoaaGreatDoor

/- Layer 13 (journal): sameService. -/
namespace Go.Proofs.YthgcnmilaifkoaaGreatDoor
open Go.RowKit
set_option linter.unusedVariables false
set_option linter.unusedSimpArgs false

set_option maxRecDepth 100000 in
set_option maxHeartbeats 2000000 in
theorem jsameService_calls (a b : Sp) (ta tb : Option Addr) (ca cb : Nat) (w : World) (hla : a.tags.length ≤ 140737488355328) (hlb : b.tags.length ≤ 140737488355328) (ha : CellsAt w ta (a.tags.map Value.string)) (hb : CellsAt w tb (b.tags.map Value.string)) :
  Calls Tryz.prog 71 #[.agg (a.v (.slice ta a.tags.length ca)), .agg (b.v (.slice tb b.tags.length cb))] w fun e w' => e = .returned (.bool (sameS a b)) ∧ Below w.heap.size w w' := by
 have HT : Hid (∀ w', Below w.heap.size w w' → Calls Tryz.prog 86 #[.slice ta a.tags.length ca, .slice tb b.tags.length cb] w' fun e w'' => e = .returned (.bool (decide (a.tags = b.tags))) ∧ ∃ n, w'' = w'.drewN n) := fun w' h => equalT_calls ta tb ca cb a.tags b.tags w' hla hlb (ha.below h) (hb.below h)
 clear ha hb hla hlb
 obtain ⟨R, HR⟩ : ∃ x, Hid (x = sameS a b) := ⟨_, rfl⟩
 rw [← HR.out]
 obtain ⟨an, ai, am, ap, at_, ax, ay⟩ := a
 obtain ⟨bn, bi, bm, bp, bt_, bx, by_⟩ := b
 simp only [Sp.v] at *
 obtain ⟨la, Hla⟩ : ∃ x, Hid (x = at_.length) := ⟨_, rfl⟩
 obtain ⟨lb, Hlb⟩ : ∃ x, Hid (x = bt_.length) := ⟨_, rfl⟩
 rw [← Hla.out, ← Hlb.out] at HT ⊢
 clear Hla Hlb
 obtain ⟨w2, Hw2⟩ : ∃ w2, Hid (w2 = (w.alloc (.cells #[.string an, .string ai, .string am, .int .i64 ap, .slice ta la ca, .int .u64 ax, .int .u64 ay] 41)).alloc (.cells #[.string bn, .string bi, .string bm, .int .i64 bp, .slice tb lb cb, .int .u64 bx, .int .u64 by_] 41)) := ⟨_, rfl⟩
 have hz : (w.alloc (.cells #[.string an, .string ai, .string am, .int .i64 ap, .slice ta la ca, .int .u64 ax, .int .u64 ay] 41)).heap.size = w.heap.size + 1 := size_new _ _
 have HX : Hid (Blk w2 w.heap.size #[.string an, .string ai, .string am, .int .i64 ap, .slice ta la ca, .int .u64 ax, .int .u64 ay] 41) := by rw [Hw2.out]; exact (Blk.new _ _ _).alloc _
 have HY : Hid (Blk w2 (w.heap.size + 1) #[.string bn, .string bi, .string bm, .int .i64 bp, .slice tb lb cb, .int .u64 bx, .int .u64 by_] 41) := by rw [Hw2.out, ← hz]; exact Blk.new _ _ _
 have HB : Hid (Below w.heap.size w w2) := by rw [Hw2.out]; exact (below_new w _).alloc (by rw [hz]; omega) _
 clear hz
 go_enter Tryz.func71, Tryz.ntmps71
 go_upto_region 1 with fail
 rw [← Hw2.out]
 clear Hw2
 have x0 := HX.out.cell 0 rfl
 have y0 := HY.out.cell 0 rfl
 have x1 := HX.out.cell 1 rfl
 have y1 := HY.out.cell 1 rfl
 have x2 := HX.out.cell 2 rfl
 have y2 := HY.out.cell 2 rfl
 have x3 := HX.out.cell 3 rfl
 have y3 := HY.out.cell 3 rfl
 have x4 := HX.out.cell 4 rfl
 have y4 := HY.out.cell 4 rfl
 have x5 := HX.out.cell 5 rfl
 have y5 := HY.out.cell 5 rfl
 have x6 := HX.out.cell 6 rfl
 have y6 := HY.out.cell 6 rfl
 cases q0 : (an.toList == bn.toList) with
 | false =>
  have d0 : decide (an = bn) = false := by rw [← beq_toList]; exact q0
  have HF : Hid (R = false) := by
   show _ = _
   rw [HR.out]
   simp only [sameS, d0, Bool.true_and, Bool.and_true, Bool.false_and, Bool.and_false]
  clear HR d0
  go_wp2
  go_ret
  exact ⟨by rw [HF.out]; rfl, HB.out⟩
 | true =>
  have d0 : decide (an = bn) = true := by rw [← beq_toList]; exact q0
  cases q1 : (ai.toList == bi.toList) with
  | false =>
   have d1 : decide (ai = bi) = false := by rw [← beq_toList]; exact q1
   have HF : Hid (R = false) := by
    show _ = _
    rw [HR.out]
    simp only [sameS, d0, d1, Bool.true_and, Bool.and_true, Bool.false_and, Bool.and_false]
   clear HR d0 d1
   go_wp2
   go_ret
   exact ⟨by rw [HF.out]; rfl, HB.out⟩
  | true =>
   have d1 : decide (ai = bi) = true := by rw [← beq_toList]; exact q1
   cases q2 : (am.toList == bm.toList) with
   | false =>
    have d2 : decide (am = bm) = false := by rw [← beq_toList]; exact q2
    have HF : Hid (R = false) := by
     show _ = _
     rw [HR.out]
     simp only [sameS, d0, d1, d2, Bool.true_and, Bool.and_true, Bool.false_and, Bool.and_false]
    clear HR d0 d1 d2
    go_wp2
    go_ret
    exact ⟨by rw [HF.out]; rfl, HB.out⟩
   | true =>
    have d2 : decide (am = bm) = true := by rw [← beq_toList]; exact q2
    cases q3 : (ap == bp) with
    | false =>
     have d3 := q3
     have HF : Hid (R = false) := by
      show _ = _
      rw [HR.out]
      simp only [sameS, d0, d1, d2, d3, Bool.true_and, Bool.and_true, Bool.false_and, Bool.and_false]
     clear HR d0 d1 d2 d3
     go_wp2
     go_ret
     exact ⟨by rw [HF.out]; rfl, HB.out⟩
    | true =>
     have d3 := q3
     go_wp2_with fail
     clear x0 y0 x1 y1 x2 y2 x3 y3 x4 y4 x5 y5 x6 y6
     refine (HT.out w2 HB.out).mono ?_
     rintro e w3 ⟨rfl, hd⟩
     have hb3 : Below w2.heap.size w2 w3 := by obtain ⟨n, rfl⟩ := hd; exact below_draws _ _
     clear hd
     have x5 := (HX.out.below hb3).cell 5 rfl
     have y5 := (HY.out.below hb3).cell 5 rfl
     have x6 := (HX.out.below hb3).cell 6 rfl
     have y6 := (HY.out.below hb3).cell 6 rfl
     have HB3 : Hid (Below w.heap.size w w3) := HB.out.trans (hb3.mono HB.out.size)
     clear hb3 HX HY HB HT
     cases d4 : decide (at_ = bt_) with
     | false =>
      have HF : Hid (R = false) := by
       show _ = _
       rw [HR.out]
       simp only [sameS, d0, d1, d2, d3, d4, Bool.true_and, Bool.and_true, Bool.false_and, Bool.and_false]
      clear HR
      go_wp2
      go_ret
      exact ⟨by rw [HF.out]; rfl, HB3.out⟩
     | true =>
      cases q5 : (ax == bx) with
      | false =>
       have d5 := q5
       have HF : Hid (R = false) := by
        show _ = _
        rw [HR.out]
        simp only [sameS, d0, d1, d2, d3, d4, d5, Bool.true_and, Bool.and_true, Bool.false_and, Bool.and_false]
       clear HR d0 d1 d2 d3 d5
       go_wp2
       go_ret
       exact ⟨by rw [HF.out]; rfl, HB3.out⟩
      | true =>
       have d5 := q5
       cases q6 : (ay == by_) with
       | false =>
        have d6 := q6
        have HF : Hid (R = false) := by
         show _ = _
         rw [HR.out]
         simp only [sameS, d0, d1, d2, d3, d4, d5, d6, Bool.true_and, Bool.and_true, Bool.false_and, Bool.and_false]
        clear HR d0 d1 d2 d3 d5 d6
        go_wp2
        go_ret
        exact ⟨by rw [HF.out]; rfl, HB3.out⟩
       | true =>
        have d6 := q6
        have HF : Hid (R = true) := by
         show _ = _
         rw [HR.out]
         simp only [sameS, d0, d1, d2, d3, d4, d5, d6, Bool.and_self]
        clear HR
        go_wp2
        go_ret
        exact ⟨by rw [HF.out]; rfl, HB3.out⟩
end Go.Proofs.YthgcnmilaifkoaaGreatDoor

/- Layer 13 (journal): == of nodes and of checks. -/
namespace Go.Proofs.YthgcnmilaifkoaaGreatDoor
open Go.RowKit
set_option linter.unusedVariables false
set_option linter.unusedSimpArgs false

theorem txt_dec (a b : ByteArray) : decide (a = b) = decide (a.toList = b.toList) := by
 rw [← beq_toList]
 by_cases h : a.toList = b.toList <;> simp [h]
set_option maxRecDepth 100000 in
theorem run_eql_node (a b : Nd) (w : World) : (binOp .eql 43 (.agg a.v) (.agg b.v)).run Tryz.prog w = .ok (.bool (sameN a b)) w := by
 obtain ⟨a1, a2, a3, a4⟩ := a
 obtain ⟨b1, b2, b3, b4⟩ := b
 have h : (Op.equalIn 10000 43 (.agg #[.string a1, .string a2, .int .u64 a3, .int .u64 a4]) (.agg #[.string b1, .string b2, .int .u64 b3, .int .u64 b4])).run Tryz.prog w = .ok (sameN ⟨a1, a2, a3, a4⟩ ⟨b1, b2, b3, b4⟩) w := by
  have u9 := Tryz.underlying9
  have a9 := Tryz.isAgg9
  have u42 := Tryz.underlying22
  have a42 := Tryz.isAgg22
  have hS : Tryz.prog.underlying 43 = some (.struct (Tryz.prog.fieldsOf 43)) := by kernel_rfl
  have hp : Tryz.prog.stoodInHeld 43 = false := by kernel_rfl
  rw [show (10000 : Nat) = 9999 + 1 from rfl, run_equalIn_agg w 9999 43 _ _ hS hp]
  simp only [Program.fieldsOf, Tryz.underlying43]
  go_simp
  simp only [sameN, txt_dec]
  by_cases h1 : a1.toList = b1.toList <;> by_cases h2 : a2.toList = b2.toList <;> by_cases h3 : a3 = b3 <;> by_cases h4 : a4 = b4 <;> simp [h1, h2, h3, h4]
 show (binOp .eql 43 (.agg #[.string a1, .string a2, .int .u64 a3, .int .u64 a4]) (.agg #[.string b1, .string b2, .int .u64 b3, .int .u64 b4])).run Tryz.prog w = _
 rw [run_eql_struct, h]; rfl
set_option maxRecDepth 100000 in
theorem run_eql_chk (a b : Ck) (w : World) : (binOp .eql 45 (.agg a.v) (.agg b.v)).run Tryz.prog w = .ok (.bool (sameC a b)) w := by
 obtain ⟨a1, a2, a3, a4, a5, a6, a7⟩ := a
 obtain ⟨b1, b2, b3, b4, b5, b6, b7⟩ := b
 have h : (Op.equalIn 10000 45 (.agg #[.string a1, .string a2, .string a3, .int .i64 a4, .string a5, .int .u64 a6, .int .u64 a7]) (.agg #[.string b1, .string b2, .string b3, .int .i64 b4, .string b5, .int .u64 b6, .int .u64 b7])).run Tryz.prog w = .ok (sameC ⟨a1, a2, a3, a4, a5, a6, a7⟩ ⟨b1, b2, b3, b4, b5, b6, b7⟩) w := by
  have u3 := Tryz.underlying3
  have a3' := Tryz.isAgg3
  have u9 := Tryz.underlying9
  have a9 := Tryz.isAgg9
  have u42 := Tryz.underlying22
  have a42 := Tryz.isAgg22
  have hS : Tryz.prog.underlying 45 = some (.struct (Tryz.prog.fieldsOf 45)) := by kernel_rfl
  have hp : Tryz.prog.stoodInHeld 45 = false := by kernel_rfl
  rw [show (10000 : Nat) = 9999 + 1 from rfl, run_equalIn_agg w 9999 45 _ _ hS hp]
  simp only [Program.fieldsOf, Tryz.underlying45]
  go_simp
  simp only [sameC, txt_dec]
  by_cases h1 : a1.toList = b1.toList <;> by_cases h2 : a2.toList = b2.toList <;> by_cases h3 : a3.toList = b3.toList <;> by_cases h4 : a4 = b4 <;> by_cases h5 : a5.toList = b5.toList <;> by_cases h6 : a6 = b6 <;> by_cases h7 : a7 = b7 <;> simp [h1, h2, h3, h4, h5, h6, h7]
 show (binOp .eql 45 (.agg #[.string a1, .string a2, .string a3, .int .i64 a4, .string a5, .int .u64 a6, .int .u64 a7]) (.agg #[.string b1, .string b2, .string b3, .int .i64 b4, .string b5, .int .u64 b6, .int .u64 b7])).run Tryz.prog w = _
 rw [run_eql_struct, h]; rfl
theorem guard_nd : Tryz.prog.eqGuardType Tryz.prog.depth 43 = false := by kernel_rfl
theorem guard_ck : Tryz.prog.eqGuardType Tryz.prog.depth 45 = false := by kernel_rfl
end Go.Proofs.YthgcnmilaifkoaaGreatDoor
