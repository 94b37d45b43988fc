/- Layer 18 (json): the document's Value. -/
import Derived.Test.YtelhgjepjieocaaDoorJxRv5
import Derived.Test.YtelhgjepjieocaaDoorJxRv6
namespace Go.Proofs.YtelhgjepjieocaaDoor
open Go.RowKit Go.Sort
set_option linter.unusedVariables false

set_option maxRecDepth 100000 in
set_option maxHeartbeats 8000000 in
theorem value91_calls (K0 : Nat) (s : ByteArray) (IH : DSpec s K0) (w : World) (n d : Nat) (hn : n ≤ s.size) (hs : s.size ≤ 1048576) (hk : 2 * (tl s n).length + 1 ≤ K0 + 1) (hd : d ≤ 16) (hlt : n < s.size) (hc : s[n].toNat = 91) :
    Calls Tryd.prog 25 #[.string s, .int .i64 (n : Int), .int .i64 ((d : Int) + 1)] w (RvR w s (bareF (K0 + 1) d (tl s n))) := by
  obtain ⟨Q, HQ⟩ : ∃ Q, Hid (Q = bareF (K0 + 1) d (tl s n)) := ⟨_, rfl⟩
  rw [← HQ.out]
  obtain ⟨w1, Hw1⟩ : ∃ w1, Hid (w1 = w.alloc (.cells #[.int .i64 0, .int .i64 0, .string ⟨#[]⟩, .slice none 0 0, .slice none 0 0] 26)) := ⟨_, rfl⟩
  obtain ⟨gr, Hg⟩ : ∃ gr, Hid (gr = w.heap.size) := ⟨_, rfl⟩
  obtain ⟨w2, Hw2⟩ : ∃ w2, Hid (w2 = w1.alloc (.cells #[.int .i64 0, .int .i64 0, .string ⟨#[]⟩, .slice none 0 0, .slice none 0 0] 26)) := ⟨_, rfl⟩
  obtain ⟨gv, Hgv⟩ : ∃ gv, Hid (gv = w1.heap.size) := ⟨_, rfl⟩
  have hb1 : Below w.heap.size w w1 := by rw [Hw1.out]; exact below_new _ _
  have hb2 : Below w1.heap.size w1 w2 := by rw [Hw2.out]; exact below_new _ _
  have hB1 : Blk w1 gr jZ 26 := by rw [Hw1.out, Hg.out]; exact Blk.new _ _ _
  have hB2 : Blk w2 gv jZ 26 := by rw [Hw2.out, Hgv.out]; exact Blk.new _ _ _
  have hgr : w.heap.size ≤ gr := by rw [Hg.out]; exact Nat.le_refl _
  have hgv : w.heap.size ≤ gv ∧ gr ≠ gv := by
    have q1 := hB1.lt
    have q2 := Hgv.out
    have q3 := hb1.size
    omega
  have HI : Hid (Frm noB w w2 ∧ Blk w2 gr jZ 26 ∧ Blk w2 gv jZ 26) := ⟨(Frm.ofBelow hb1 _).trans (Frm.ofBelow hb2 _), hB1.below hb2, hB2⟩
  have hh : hdN (tl s n) = some s[n].toNat := tl_hd hlt
  clear hb1 hb2 hB1 hB2
  have q91 : ((s[n].toNat : Int) == 91) = true := by rw [hc]; rfl
  have HD : Hid (Q = if d = 16 then .error 182 else inF K0 5 93 d (tl s n)) := by rw [Hid, HQ.out, bareF_sq (by rw [hh, hc])]
  by_cases hd16 : d = 16
  · have i16 : (16 : Int) < (d : Int) + 1 := by omega
    have HN : Hid (Q = .error 182) := by rw [Hid, HD.out, if_pos hd16]
    clear HQ HD hh hc hd16 hd hk IH
    go_enter Tryd.func25, Tryd.ntmps25
    go_upto_region 1 with fail
    rw [← Hw1.out, ← Hg.out]
    go_upto_region 4 with fail
    rw [← Hw2.out, ← Hgv.out]
    clear Hw1 Hg Hw2 Hgv
    obtain ⟨y0, y1, y2, y3, y4, z0, z1, z2, z3, z4⟩ := Blk.five HI.out.2.1
    go_wp2
    change bodyPost _ _ _ _ _ (putC w2 gr 0 [.int .i64 0, .int .i64 0, .string ⟨#[]⟩, .slice none 0 0, .slice none 0 0])
    refine ret_cell2 rfl rfl rfl rfl rfl (load_js (putC_all HI.out.2.1 rfl) rfl) ?_
    rw [HN.out]
    exact ⟨HI.out.1.put _ _ 0 hgr, rfl, .inr (.inl rfl)⟩
  · have i16 : ¬ ((16 : Int) < (d : Int) + 1) := by omega
    have HN : Hid (Q = inF K0 5 93 d (tl s n)) := by rw [Hid, HD.out, if_neg hd16]
    have HC := inside5_calls K0 s IH w2 n d hlt hs hc hk (by omega)
    clear HQ HD hh hd16 hd hk IH hc
    go_enter Tryd.func25, Tryd.ntmps25
    go_upto_region 1 with fail
    rw [← Hw1.out, ← Hg.out]
    go_upto_region 4 with fail
    rw [← Hw2.out, ← Hgv.out]
    clear Hw1 Hg Hw2 Hgv
    go_wp2_with fail
    refine HC.mono ?_
    clear HC
    rintro e w3 ⟨f3, hm3⟩
    have HI3 : Hid (Frm noB w w3 ∧ Blk w3 gr jZ 26) := ⟨HI.out.1.trans f3, (f3.block gr HI.out.2.1.lt id).trans HI.out.2.1⟩
    cases hr : inF K0 5 93 d (tl s n) with
    | error c =>
      rw [hr] at hm3
      obtain ⟨rfl, hcm⟩ := hm3
      have HN2 : Hid (Q = .error c) := by rw [Hid, HN.out, hr]
      clear HN hr HI f3
      unfold jZ jC
      obtain ⟨y0, y1, y2, y3, y4, z0, z1, z2, z3, z4⟩ := Blk.five HI3.out.2
      go_wp2
      change bodyPost _ _ _ _ _ (putC w3 gr 0 [.int .i64 0, .int .i64 0, .string ⟨#[]⟩, .slice none 0 0, .slice none 0 0])
      refine ret_cell2 rfl rfl rfl rfl rfl (load_js (putC_all HI3.out.2 rfl) rfl) ?_
      rw [HN2.out]
      exact ⟨HI3.out.1.put _ _ 0 hgr, rfl, hcm⟩
    | ok p =>
      obtain ⟨v, l⟩ := p
      rw [hr] at hm3
      obtain ⟨cs, S, m, rfl, hm, htl, hj, hS⟩ := hm3
      have HN2 : Hid (Q = .ok (v, l)) := by rw [Hid, HN.out, hr]
      obtain ⟨xk, xn, xt, xa, xl, xc, ya, yl, yc, hcs⟩ := JAt.cs hj
      subst hcs
      have HJ : Hid (JAt w3 S v #[.int .i64 xk, .int .i64 xn, .string xt, .slice xa xl xc, .slice ya yl yc] ∧ (∀ k, S k → w.heap.size ≤ k ∧ k < w3.heap.size ∧ k ≠ gr) ∧ tl s m = l) := ⟨hj, fun k hk => by
        have h1 := hS k hk
        have h2 := HI.out.2.1.lt
        have h3 := HI.out.1.size
        exact ⟨by omega, by omega, by omega⟩, htl⟩
      clear HN hr HI f3 hj hS htl
      obtain ⟨y0, y1, y2, y3, y4, z0, z1, z2, z3, z4⟩ := Blk.five HI3.out.2
      go_wp2
      change bodyPost _ _ _ _ _ (putC w3 gr 0 [.int .i64 xk, .int .i64 xn, .string xt, .slice xa xl xc, .slice ya yl yc])
      refine ret_cell2 rfl rfl rfl rfl rfl (load_js (putC_all HI3.out.2 rfl) rfl) ?_
      rw [HN2.out]
      exact ⟨HI3.out.1.put _ _ 0 hgr, _, S, m, by trivial, hm, HJ.out.2.2, JAt.frm (frm_put w3 gr _) (fun k hk e => (HJ.out.2.1 k hk).2.2 e) _ _ HJ.out.1, fun k hk => by rw [putC_size]; exact ⟨(HJ.out.2.1 k hk).1, (HJ.out.2.1 k hk).2.1⟩⟩
set_option maxRecDepth 100000 in
set_option maxHeartbeats 8000000 in
theorem value123_calls (K0 : Nat) (s : ByteArray) (IH : DSpec s K0) (w : World) (n d : Nat) (hn : n ≤ s.size) (hs : s.size ≤ 1048576) (hk : 2 * (tl s n).length + 1 ≤ K0 + 1) (hd : d ≤ 16) (hlt : n < s.size) (hc : s[n].toNat = 123) :
    Calls Tryd.prog 25 #[.string s, .int .i64 (n : Int), .int .i64 ((d : Int) + 1)] w (RvR w s (bareF (K0 + 1) d (tl s n))) := by
  obtain ⟨Q, HQ⟩ : ∃ Q, Hid (Q = bareF (K0 + 1) d (tl s n)) := ⟨_, rfl⟩
  rw [← HQ.out]
  obtain ⟨w1, Hw1⟩ : ∃ w1, Hid (w1 = w.alloc (.cells #[.int .i64 0, .int .i64 0, .string ⟨#[]⟩, .slice none 0 0, .slice none 0 0] 26)) := ⟨_, rfl⟩
  obtain ⟨gr, Hg⟩ : ∃ gr, Hid (gr = w.heap.size) := ⟨_, rfl⟩
  obtain ⟨w2, Hw2⟩ : ∃ w2, Hid (w2 = w1.alloc (.cells #[.int .i64 0, .int .i64 0, .string ⟨#[]⟩, .slice none 0 0, .slice none 0 0] 26)) := ⟨_, rfl⟩
  obtain ⟨gv, Hgv⟩ : ∃ gv, Hid (gv = w1.heap.size) := ⟨_, rfl⟩
  have hb1 : Below w.heap.size w w1 := by rw [Hw1.out]; exact below_new _ _
  have hb2 : Below w1.heap.size w1 w2 := by rw [Hw2.out]; exact below_new _ _
  have hB1 : Blk w1 gr jZ 26 := by rw [Hw1.out, Hg.out]; exact Blk.new _ _ _
  have hB2 : Blk w2 gv jZ 26 := by rw [Hw2.out, Hgv.out]; exact Blk.new _ _ _
  have hgr : w.heap.size ≤ gr := by rw [Hg.out]; exact Nat.le_refl _
  have hgv : w.heap.size ≤ gv ∧ gr ≠ gv := by
    have q1 := hB1.lt
    have q2 := Hgv.out
    have q3 := hb1.size
    omega
  have HI : Hid (Frm noB w w2 ∧ Blk w2 gr jZ 26 ∧ Blk w2 gv jZ 26) := ⟨(Frm.ofBelow hb1 _).trans (Frm.ofBelow hb2 _), hB1.below hb2, hB2⟩
  have hh : hdN (tl s n) = some s[n].toNat := tl_hd hlt
  clear hb1 hb2 hB1 hB2
  have q91 : ((s[n].toNat : Int) == 91) = false := by simp; omega
  have q123 : ((s[n].toNat : Int) == 123) = true := by rw [hc]; rfl
  have HD : Hid (Q = if d = 16 then .error 182 else inF K0 6 125 d (tl s n)) := by rw [Hid, HQ.out, bareF_br (by rw [hh, hc])]
  by_cases hd16 : d = 16
  · have i16 : (16 : Int) < (d : Int) + 1 := by omega
    have HN : Hid (Q = .error 182) := by rw [Hid, HD.out, if_pos hd16]
    clear HQ HD hh hc hd16 hd hk IH
    go_enter Tryd.func25, Tryd.ntmps25
    go_upto_region 1 with fail
    rw [← Hw1.out, ← Hg.out]
    go_upto_region 4 with fail
    rw [← Hw2.out, ← Hgv.out]
    clear Hw1 Hg Hw2 Hgv
    obtain ⟨y0, y1, y2, y3, y4, z0, z1, z2, z3, z4⟩ := Blk.five HI.out.2.1
    go_wp2
    change bodyPost _ _ _ _ _ (putC w2 gr 0 [.int .i64 0, .int .i64 0, .string ⟨#[]⟩, .slice none 0 0, .slice none 0 0])
    refine ret_cell2 rfl rfl rfl rfl rfl (load_js (putC_all HI.out.2.1 rfl) rfl) ?_
    rw [HN.out]
    exact ⟨HI.out.1.put _ _ 0 hgr, rfl, .inr (.inl rfl)⟩
  · have i16 : ¬ ((16 : Int) < (d : Int) + 1) := by omega
    have HN : Hid (Q = inF K0 6 125 d (tl s n)) := by rw [Hid, HD.out, if_neg hd16]
    have HC := inside6_calls K0 s IH w2 n d hlt hs hc hk (by omega)
    clear HQ HD hh hd16 hd hk IH hc
    go_enter Tryd.func25, Tryd.ntmps25
    go_upto_region 1 with fail
    rw [← Hw1.out, ← Hg.out]
    go_upto_region 4 with fail
    rw [← Hw2.out, ← Hgv.out]
    clear Hw1 Hg Hw2 Hgv
    go_wp2_with fail
    refine HC.mono ?_
    clear HC
    rintro e w3 ⟨f3, hm3⟩
    have HI3 : Hid (Frm noB w w3 ∧ Blk w3 gr jZ 26) := ⟨HI.out.1.trans f3, (f3.block gr HI.out.2.1.lt id).trans HI.out.2.1⟩
    cases hr : inF K0 6 125 d (tl s n) with
    | error c =>
      rw [hr] at hm3
      obtain ⟨rfl, hcm⟩ := hm3
      have HN2 : Hid (Q = .error c) := by rw [Hid, HN.out, hr]
      clear HN hr HI f3
      unfold jZ jC
      obtain ⟨y0, y1, y2, y3, y4, z0, z1, z2, z3, z4⟩ := Blk.five HI3.out.2
      go_wp2
      change bodyPost _ _ _ _ _ (putC w3 gr 0 [.int .i64 0, .int .i64 0, .string ⟨#[]⟩, .slice none 0 0, .slice none 0 0])
      refine ret_cell2 rfl rfl rfl rfl rfl (load_js (putC_all HI3.out.2 rfl) rfl) ?_
      rw [HN2.out]
      exact ⟨HI3.out.1.put _ _ 0 hgr, rfl, hcm⟩
    | ok p =>
      obtain ⟨v, l⟩ := p
      rw [hr] at hm3
      obtain ⟨cs, S, m, rfl, hm, htl, hj, hS⟩ := hm3
      have HN2 : Hid (Q = .ok (v, l)) := by rw [Hid, HN.out, hr]
      obtain ⟨xk, xn, xt, xa, xl, xc, ya, yl, yc, hcs⟩ := JAt.cs hj
      subst hcs
      have HJ : Hid (JAt w3 S v #[.int .i64 xk, .int .i64 xn, .string xt, .slice xa xl xc, .slice ya yl yc] ∧ (∀ k, S k → w.heap.size ≤ k ∧ k < w3.heap.size ∧ k ≠ gr) ∧ tl s m = l) := ⟨hj, fun k hk => by
        have h1 := hS k hk
        have h2 := HI.out.2.1.lt
        have h3 := HI.out.1.size
        exact ⟨by omega, by omega, by omega⟩, htl⟩
      clear HN hr HI f3 hj hS htl
      obtain ⟨y0, y1, y2, y3, y4, z0, z1, z2, z3, z4⟩ := Blk.five HI3.out.2
      go_wp2
      change bodyPost _ _ _ _ _ (putC w3 gr 0 [.int .i64 xk, .int .i64 xn, .string xt, .slice xa xl xc, .slice ya yl yc])
      refine ret_cell2 rfl rfl rfl rfl rfl (load_js (putC_all HI3.out.2 rfl) rfl) ?_
      rw [HN2.out]
      exact ⟨HI3.out.1.put _ _ 0 hgr, _, S, m, by trivial, hm, HJ.out.2.2, JAt.frm (frm_put w3 gr _) (fun k hk e => (HJ.out.2.1 k hk).2.2 e) _ _ HJ.out.1, fun k hk => by rw [putC_size]; exact ⟨(HJ.out.2.1 k hk).1, (HJ.out.2.1 k hk).2.1⟩⟩
end Go.Proofs.YtelhgjepjieocaaDoor
