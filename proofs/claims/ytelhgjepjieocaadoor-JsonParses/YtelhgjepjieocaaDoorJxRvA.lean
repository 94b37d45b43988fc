/- Layer 18 (json): the document's Value. -/
import Derived.Test.YtelhgjepjieocaaDoorJxRvP
namespace Go.Proofs.YtelhgjepjieocaaDoor
open Go.RowKit Go.Sort
set_option linter.unusedVariables false

set_option maxRecDepth 100000 in
set_option maxHeartbeats 8000000 in
theorem valueNil_calls (K0 : Nat) (s : ByteArray) (w : World) (n d : Nat) (hs : s.size ≤ 1048576) (hlt : ¬ n < s.size) :
    Calls Tryd.prog 25 #[.string s, .int .i64 (n : Int), .int .i64 ((d : Int) + 1)] w (RvR w s (bareF (K0 + 1) d (tl s n))) := by
  rw [bareF_nil (tl_hd0 hlt)]
  obtain ⟨w1, Hw1⟩ : ∃ w1, Hid (w1 = w.alloc (.cells #[.int .i64 0, .int .i64 0, .string ⟨#[]⟩, .slice none 0 0, .slice none 0 0] 26)) := ⟨_, rfl⟩
  obtain ⟨gr, Hg⟩ : ∃ gr, Hid (gr = w.heap.size) := ⟨_, rfl⟩
  have HI : Hid (Frm noB w w1 ∧ Blk w1 gr jZ 26) := by
    rw [Hid, Hw1.out, Hg.out]
    exact ⟨Frm.ofBelow (below_new _ _) _, Blk.new _ _ _⟩
  have hgr : w.heap.size ≤ gr := by rw [Hg.out]; exact Nat.le_refl _
  go_enter Tryd.func25, Tryd.ntmps25
  go_upto_region 1 with fail
  rw [← Hw1.out, ← Hg.out]
  clear Hw1 Hg
  obtain ⟨y0, y1, y2, y3, y4, z0, z1, z2, z3, z4⟩ := Blk.five HI.out.2
  go_wp2
  change bodyPost _ _ _ _ _ (putC w1 gr 0 [.int .i64 0, .int .i64 0, .string ⟨#[]⟩, .slice none 0 0, .slice none 0 0])
  refine ret_cell2 rfl rfl rfl rfl rfl (load_js (putC_all HI.out.2 rfl) rfl) ?_
  exact ⟨HI.out.1.put _ _ 0 hgr, rfl, .inl rfl⟩
set_option maxRecDepth 100000 in
set_option maxHeartbeats 8000000 in
theorem value34_calls (K0 : Nat) (s : ByteArray) (IH : DSpec s K0) (w : World) (n d : Nat) (hn : n ≤ s.size) (hs : s.size ≤ 1048576) (hk : 2 * (tl s n).length + 1 ≤ K0 + 1) (hd : d ≤ 16) (hlt : n < s.size) (hc : s[n].toNat = 34) :
    Calls Tryd.prog 25 #[.string s, .int .i64 (n : Int), .int .i64 ((d : Int) + 1)] w (RvR w s (bareF (K0 + 1) d (tl s n))) := by
  obtain ⟨Q, HQ⟩ : ∃ Q, Hid (Q = bareF (K0 + 1) d (tl s n)) := ⟨_, rfl⟩
  rw [← HQ.out]
  obtain ⟨w1, Hw1⟩ : ∃ w1, Hid (w1 = w.alloc (.cells #[.int .i64 0, .int .i64 0, .string ⟨#[]⟩, .slice none 0 0, .slice none 0 0] 26)) := ⟨_, rfl⟩
  obtain ⟨gr, Hg⟩ : ∃ gr, Hid (gr = w.heap.size) := ⟨_, rfl⟩
  obtain ⟨w2, Hw2⟩ : ∃ w2, Hid (w2 = w1.alloc (.cells #[.int .i64 0, .int .i64 0, .string ⟨#[]⟩, .slice none 0 0, .slice none 0 0] 26)) := ⟨_, rfl⟩
  obtain ⟨gv, Hgv⟩ : ∃ gv, Hid (gv = w1.heap.size) := ⟨_, rfl⟩
  have hb1 : Below w.heap.size w w1 := by rw [Hw1.out]; exact below_new _ _
  have hb2 : Below w1.heap.size w1 w2 := by rw [Hw2.out]; exact below_new _ _
  have hB1 : Blk w1 gr jZ 26 := by rw [Hw1.out, Hg.out]; exact Blk.new _ _ _
  have hB2 : Blk w2 gv jZ 26 := by rw [Hw2.out, Hgv.out]; exact Blk.new _ _ _
  have hgr : w.heap.size ≤ gr := by rw [Hg.out]; exact Nat.le_refl _
  have hgv : w.heap.size ≤ gv ∧ gr ≠ gv := by
    have q1 := hB1.lt
    have q2 := Hgv.out
    have q3 := hb1.size
    omega
  have HI : Hid (Frm noB w w2 ∧ Blk w2 gr jZ 26 ∧ Blk w2 gv jZ 26) := ⟨(Frm.ofBelow hb1 _).trans (Frm.ofBelow hb2 _), hB1.below hb2, hB2⟩
  have hh : hdN (tl s n) = some s[n].toNat := tl_hd hlt
  clear hb1 hb2 hB1 hB2
  have q91 : ((s[n].toNat : Int) == 91) = false := by simp; omega
  have q123 : ((s[n].toNat : Int) == 123) = false := by simp; omega
  have q34 : ((s[n].toNat : Int) == 34) = true := by rw [hc]; rfl
  have HD : Hid (Q = txR (textP (tl s n))) := by rw [Hid, HQ.out, bareF_tx (by rw [hh, hc])]
  obtain ⟨w3, Hw3⟩ : ∃ w3, Hid (w3 = w2.setCell ⟨gv, 0, none⟩ (.int .i64 4)) := ⟨_, rfl⟩
  have HI3 : Hid (Frm noB w w3 ∧ Blk w3 gr jZ 26 ∧ Blk w3 gv #[.int .i64 4, .int .i64 0, .string ⟨#[]⟩, .slice none 0 0, .slice none 0 0] 26) := by
    rw [Hid, Hw3.out]
    exact ⟨HI.out.1.setCell _ _ (.inr hgv.1), (heap_setCell_other _ _ _ _ hgv.2).trans HI.out.2.1, Lib.heap_setCell_same (i := 0) HI.out.2.2 _⟩
  have HC := refText_calls s n w3 hn hs
  obtain ⟨x0, x1, x2, x3, x4, f0, f1, f2, f3, f4⟩ := Blk.five HI.out.2.2
  clear HQ hh hd hk IH hc
  go_enter Tryd.func25, Tryd.ntmps25
  go_upto_region 1 with fail
  rw [← Hw1.out, ← Hg.out]
  go_upto_region 4 with fail
  rw [← Hw2.out, ← Hgv.out]
  clear Hw1 Hg Hw2 Hgv
  go_upto_region 15 with fail
  rw [← Hw3.out]
  clear Hw3 x0 x1 x2 x3 x4 f0 f1 f2 f3 f4 HI
  cases ht : textP (tl s n) with
  | none =>
    rw [ht] at HC HD
    have HN : Hid (Q = .error 181) := by rw [Hid, HD.out]; rfl
    clear HD ht
    go_wp2_with fail
    refine HC.mono ?_
    clear HC
    rintro e w4 ⟨hb4, rfl⟩
    have HI4 : Hid (Frm noB w w4 ∧ Blk w4 gr jZ 26 ∧ Blk w4 gv #[.int .i64 4, .int .i64 0, .string ⟨#[]⟩, .slice none 0 0, .slice none 0 0] 26) := ⟨HI3.out.1.trans (Frm.ofBelow hb4 _), HI3.out.2.1.below hb4, HI3.out.2.2.below hb4⟩
    obtain ⟨w5, Hw5⟩ : ∃ w5, Hid (w5 = w4.setCell ⟨gv, 2, none⟩ (.string ⟨#[]⟩)) := ⟨_, rfl⟩
    have HI5 : Hid (Frm noB w w5 ∧ Blk w5 gr jZ 26) := by
      rw [Hid, Hw5.out]
      exact ⟨HI4.out.1.setCell _ _ (.inr hgv.1), (heap_setCell_other _ _ _ _ hgv.2).trans HI4.out.2.1⟩
    clear hb4 HI3
    obtain ⟨x0, x1, x2, x3, x4, f0, f1, f2, f3, f4⟩ := Blk.five HI4.out.2.2
    go_upto_region 25 with fail
    rw [← Hw5.out]
    clear Hw5 x0 x1 x2 x3 x4 f0 f1 f2 f3 f4 HI4
    obtain ⟨y0, y1, y2, y3, y4, z0, z1, z2, z3, z4⟩ := Blk.five HI5.out.2
    go_wp2
    change bodyPost _ _ _ _ _ (putC w5 gr 0 [.int .i64 0, .int .i64 0, .string ⟨#[]⟩, .slice none 0 0, .slice none 0 0])
    refine ret_cell2 rfl rfl rfl rfl rfl (load_js (putC_all HI5.out.2 rfl) rfl) ?_
    rw [HN.out]
    exact ⟨HI5.out.1.put _ _ 0 hgr, rfl, .inl rfl⟩
  | some p =>
    obtain ⟨t, l⟩ := p
    rw [ht] at HC HD
    have HN : Hid (Q = .ok (.mk 4 0 t [] [], l)) := by rw [Hid, HD.out]; rfl
    clear HD ht
    go_wp2_with fail
    refine HC.mono ?_
    clear HC
    rintro e w4 ⟨hb4, m, rfl, hm, htl⟩
    have HI4 : Hid (Frm noB w w4 ∧ Blk w4 gr jZ 26 ∧ Blk w4 gv #[.int .i64 4, .int .i64 0, .string ⟨#[]⟩, .slice none 0 0, .slice none 0 0] 26) := ⟨HI3.out.1.trans (Frm.ofBelow hb4 _), HI3.out.2.1.below hb4, HI3.out.2.2.below hb4⟩
    obtain ⟨w5, Hw5⟩ : ∃ w5, Hid (w5 = w4.setCell ⟨gv, 2, none⟩ (.string (nmB t))) := ⟨_, rfl⟩
    have HI5 : Hid (Frm noB w w5 ∧ Blk w5 gr jZ 26 ∧ Blk w5 gv #[.int .i64 4, .int .i64 0, .string (nmB t), .slice none 0 0, .slice none 0 0] 26) := by
      rw [Hid, Hw5.out]
      exact ⟨HI4.out.1.setCell _ _ (.inr hgv.1), (heap_setCell_other _ _ _ _ hgv.2).trans HI4.out.2.1, Lib.heap_setCell_same (i := 2) HI4.out.2.2 _⟩
    have HM : Hid (m ≤ s.size ∧ tl s m = l) := ⟨hm, htl⟩
    have i0 : ¬ ((m : Int) < 0) := by omega
    clear hb4 HI3 hm htl
    obtain ⟨x0, x1, x2, x3, x4, f0, f1, f2, f3, f4⟩ := Blk.five HI4.out.2.2
    go_upto_region 25 with fail
    rw [← Hw5.out]
    clear Hw5 x0 x1 x2 x3 x4 f0 f1 f2 f3 f4 HI4
    obtain ⟨x0, x1, x2, x3, x4, -⟩ := Blk.five HI5.out.2.2
    obtain ⟨y0, y1, y2, y3, y4, z0, z1, z2, z3, z4⟩ := Blk.five HI5.out.2.1
    go_wp2
    change bodyPost _ _ _ _ _ (putC w5 gr 0 [.int .i64 4, .int .i64 0, .string (nmB t), .slice none 0 0, .slice none 0 0])
    refine ret_cell2 rfl rfl rfl rfl rfl (load_js (putC_all HI5.out.2.1 rfl) rfl) ?_
    rw [HN.out]
    exact ⟨HI5.out.1.put _ _ 0 hgr, _, _, m, by trivial, HM.out.1, HM.out.2, JAt.plain _ _ _ t, fun k hk => hk.elim⟩
set_option maxRecDepth 100000 in
set_option maxHeartbeats 8000000 in
theorem value110_calls (K0 : Nat) (s : ByteArray) (IH : DSpec s K0) (w : World) (n d : Nat) (hn : n ≤ s.size) (hs : s.size ≤ 1048576) (hk : 2 * (tl s n).length + 1 ≤ K0 + 1) (hd : d ≤ 16) (hlt : n < s.size) (hc : s[n].toNat = 110) :
    Calls Tryd.prog 25 #[.string s, .int .i64 (n : Int), .int .i64 ((d : Int) + 1)] w (RvR w s (bareF (K0 + 1) d (tl s n))) := by
  obtain ⟨Q, HQ⟩ : ∃ Q, Hid (Q = bareF (K0 + 1) d (tl s n)) := ⟨_, rfl⟩
  rw [← HQ.out]
  obtain ⟨w1, Hw1⟩ : ∃ w1, Hid (w1 = w.alloc (.cells #[.int .i64 0, .int .i64 0, .string ⟨#[]⟩, .slice none 0 0, .slice none 0 0] 26)) := ⟨_, rfl⟩
  obtain ⟨gr, Hg⟩ : ∃ gr, Hid (gr = w.heap.size) := ⟨_, rfl⟩
  obtain ⟨w2, Hw2⟩ : ∃ w2, Hid (w2 = w1.alloc (.cells #[.int .i64 0, .int .i64 0, .string ⟨#[]⟩, .slice none 0 0, .slice none 0 0] 26)) := ⟨_, rfl⟩
  obtain ⟨gv, Hgv⟩ : ∃ gv, Hid (gv = w1.heap.size) := ⟨_, rfl⟩
  have hb1 : Below w.heap.size w w1 := by rw [Hw1.out]; exact below_new _ _
  have hb2 : Below w1.heap.size w1 w2 := by rw [Hw2.out]; exact below_new _ _
  have hB1 : Blk w1 gr jZ 26 := by rw [Hw1.out, Hg.out]; exact Blk.new _ _ _
  have hB2 : Blk w2 gv jZ 26 := by rw [Hw2.out, Hgv.out]; exact Blk.new _ _ _
  have hgr : w.heap.size ≤ gr := by rw [Hg.out]; exact Nat.le_refl _
  have hgv : w.heap.size ≤ gv ∧ gr ≠ gv := by
    have q1 := hB1.lt
    have q2 := Hgv.out
    have q3 := hb1.size
    omega
  have HI : Hid (Frm noB w w2 ∧ Blk w2 gr jZ 26 ∧ Blk w2 gv jZ 26) := ⟨(Frm.ofBelow hb1 _).trans (Frm.ofBelow hb2 _), hB1.below hb2, hB2⟩
  have hh : hdN (tl s n) = some s[n].toNat := tl_hd hlt
  clear hb1 hb2 hB1 hB2
  have q91 : ((s[n].toNat : Int) == 91) = false := by simp; omega
  have q123 : ((s[n].toNat : Int) == 123) = false := by simp; omega
  have q34 : ((s[n].toNat : Int) == 34) = false := by simp; omega
  have q110 : ((s[n].toNat : Int) == 110) = true := by rw [hc]; rfl
  have HD : Hid (Q = plR (wordP (tl s n))) := by rw [Hid, HQ.out, bareF_word hh (by omega)]
  rw [wordP_n (by rw [hh, hc])] at HD
  obtain ⟨w3, Hw3⟩ : ∃ w3, Hid (w3 = w2.setCell ⟨gv, 0, none⟩ (.int .i64 1)) := ⟨_, rfl⟩
  have HI3 : Hid (Frm noB w w3 ∧ Blk w3 gr jZ 26 ∧ Blk w3 gv #[.int .i64 1, .int .i64 0, .string ⟨#[]⟩, .slice none 0 0, .slice none 0 0] 26) := by
    rw [Hid, Hw3.out]
    exact ⟨HI.out.1.setCell _ _ (.inr hgv.1), (heap_setCell_other _ _ _ _ hgv.2).trans HI.out.2.1, Lib.heap_setCell_same (i := 0) HI.out.2.2 _⟩
  have HC := refWord_calls s wNull n w3 hn hs (by decide)
  obtain ⟨x0, x1, x2, x3, x4, f0, f1, f2, f3, f4⟩ := Blk.five HI.out.2.2
  clear HQ hh hd hk IH hc
  go_enter Tryd.func25, Tryd.ntmps25
  go_upto_region 1 with fail
  rw [← Hw1.out, ← Hg.out]
  go_upto_region 4 with fail
  rw [← Hw2.out, ← Hgv.out]
  clear Hw1 Hg Hw2 Hgv
  go_upto_region 18 with fail
  rw [← Hw3.out]
  clear Hw3 x0 x1 x2 x3 x4 f0 f1 f2 f3 f4 HI
  by_cases hp : Lib.hasPrefix (tl s n) wNull.data.toList = true
  · rw [if_pos hp] at HD
    have hp2 := (word_pref s wNull n hn).2 hp
    rw [if_pos hp2] at HC
    have HN : Hid (Q = .ok (.mk 1 0 [] [] [], tl s (n + 4)) ∧ n + 4 ≤ s.size) := ⟨by rw [HD.out, tl_drop]; rfl, hp2.1⟩
    rw [show ((n + wNull.size : Nat) : Int) = (n : Int) + 4 by show ((n + 4 : Nat) : Int) = _; omega] at HC
    clear HD hp hp2
    unfold wNull at HC
    go_wp2_with fail
    refine HC.mono ?_
    clear HC
    rintro e w4 ⟨rfl, hb4⟩
    have HI4 : Hid (Frm noB w w4 ∧ Blk w4 gr jZ 26 ∧ Blk w4 gv #[.int .i64 1, .int .i64 0, .string ⟨#[]⟩, .slice none 0 0, .slice none 0 0] 26) := ⟨HI3.out.1.trans (Frm.ofBelow hb4 _), HI3.out.2.1.below hb4, HI3.out.2.2.below hb4⟩
    have i0 : ¬ ((n : Int) + 4 < 0) := by omega
    clear hb4 HI3
    obtain ⟨x0, x1, x2, x3, x4, -⟩ := Blk.five HI4.out.2.2
    obtain ⟨y0, y1, y2, y3, y4, z0, z1, z2, z3, z4⟩ := Blk.five HI4.out.2.1
    go_wp2
    change bodyPost _ _ _ _ _ (putC w4 gr 0 [.int .i64 1, .int .i64 0, .string ⟨#[]⟩, .slice none 0 0, .slice none 0 0])
    refine ret_cell2 rfl rfl rfl rfl rfl (load_js (putC_all HI4.out.2.1 rfl) rfl) ?_
    rw [HN.out.1]
    exact ⟨HI4.out.1.put _ _ 0 hgr, _, _, n + 4, by go_num, HN.out.2, rfl, JAt.plain _ _ _ [], fun k hk => hk.elim⟩
  · rw [if_neg hp] at HD
    rw [if_neg (fun h => hp ((word_pref s wNull n hn).1 h))] at HC
    have HN : Hid (Q = .error 181) := by rw [Hid, HD.out]; rfl
    clear HD hp
    unfold wNull at HC
    go_wp2_with fail
    refine HC.mono ?_
    clear HC
    rintro e w4 ⟨rfl, hb4⟩
    have HI4 : Hid (Frm noB w w4 ∧ Blk w4 gr jZ 26 ∧ Blk w4 gv #[.int .i64 1, .int .i64 0, .string ⟨#[]⟩, .slice none 0 0, .slice none 0 0] 26) := ⟨HI3.out.1.trans (Frm.ofBelow hb4 _), HI3.out.2.1.below hb4, HI3.out.2.2.below hb4⟩
    clear hb4 HI3
    obtain ⟨y0, y1, y2, y3, y4, z0, z1, z2, z3, z4⟩ := Blk.five HI4.out.2.1
    go_wp2
    change bodyPost _ _ _ _ _ (putC w4 gr 0 [.int .i64 0, .int .i64 0, .string ⟨#[]⟩, .slice none 0 0, .slice none 0 0])
    refine ret_cell2 rfl rfl rfl rfl rfl (load_js (putC_all HI4.out.2.1 rfl) rfl) ?_
    rw [HN.out]
    exact ⟨HI4.out.1.put _ _ 0 hgr, rfl, .inl rfl⟩
set_option maxRecDepth 100000 in
set_option maxHeartbeats 8000000 in
theorem value116_calls (K0 : Nat) (s : ByteArray) (IH : DSpec s K0) (w : World) (n d : Nat) (hn : n ≤ s.size) (hs : s.size ≤ 1048576) (hk : 2 * (tl s n).length + 1 ≤ K0 + 1) (hd : d ≤ 16) (hlt : n < s.size) (hc : s[n].toNat = 116) :
    Calls Tryd.prog 25 #[.string s, .int .i64 (n : Int), .int .i64 ((d : Int) + 1)] w (RvR w s (bareF (K0 + 1) d (tl s n))) := by
  obtain ⟨Q, HQ⟩ : ∃ Q, Hid (Q = bareF (K0 + 1) d (tl s n)) := ⟨_, rfl⟩
  rw [← HQ.out]
  obtain ⟨w1, Hw1⟩ : ∃ w1, Hid (w1 = w.alloc (.cells #[.int .i64 0, .int .i64 0, .string ⟨#[]⟩, .slice none 0 0, .slice none 0 0] 26)) := ⟨_, rfl⟩
  obtain ⟨gr, Hg⟩ : ∃ gr, Hid (gr = w.heap.size) := ⟨_, rfl⟩
  obtain ⟨w2, Hw2⟩ : ∃ w2, Hid (w2 = w1.alloc (.cells #[.int .i64 0, .int .i64 0, .string ⟨#[]⟩, .slice none 0 0, .slice none 0 0] 26)) := ⟨_, rfl⟩
  obtain ⟨gv, Hgv⟩ : ∃ gv, Hid (gv = w1.heap.size) := ⟨_, rfl⟩
  have hb1 : Below w.heap.size w w1 := by rw [Hw1.out]; exact below_new _ _
  have hb2 : Below w1.heap.size w1 w2 := by rw [Hw2.out]; exact below_new _ _
  have hB1 : Blk w1 gr jZ 26 := by rw [Hw1.out, Hg.out]; exact Blk.new _ _ _
  have hB2 : Blk w2 gv jZ 26 := by rw [Hw2.out, Hgv.out]; exact Blk.new _ _ _
  have hgr : w.heap.size ≤ gr := by rw [Hg.out]; exact Nat.le_refl _
  have hgv : w.heap.size ≤ gv ∧ gr ≠ gv := by
    have q1 := hB1.lt
    have q2 := Hgv.out
    have q3 := hb1.size
    omega
  have HI : Hid (Frm noB w w2 ∧ Blk w2 gr jZ 26 ∧ Blk w2 gv jZ 26) := ⟨(Frm.ofBelow hb1 _).trans (Frm.ofBelow hb2 _), hB1.below hb2, hB2⟩
  have hh : hdN (tl s n) = some s[n].toNat := tl_hd hlt
  clear hb1 hb2 hB1 hB2
  have q91 : ((s[n].toNat : Int) == 91) = false := by simp; omega
  have q123 : ((s[n].toNat : Int) == 123) = false := by simp; omega
  have q34 : ((s[n].toNat : Int) == 34) = false := by simp; omega
  have q110 : ((s[n].toNat : Int) == 110) = false := by simp; omega
  have q116 : ((s[n].toNat : Int) == 116) = true := by rw [hc]; rfl
  have HD : Hid (Q = plR (wordP (tl s n))) := by rw [Hid, HQ.out, bareF_word hh (by omega)]
  rw [wordP_t (by rw [hh, hc])] at HD
  obtain ⟨w3, Hw3⟩ : ∃ w3, Hid (w3 = putC w2 gv 0 [.int .i64 2, .int .i64 1, .string ⟨#[]⟩, .slice none 0 0, .slice none 0 0]) := ⟨_, rfl⟩
  have HI3 : Hid (Frm noB w w3 ∧ Blk w3 gr jZ 26 ∧ Blk w3 gv #[.int .i64 2, .int .i64 1, .string ⟨#[]⟩, .slice none 0 0, .slice none 0 0] 26) := by
    rw [Hid, Hw3.out]
    exact ⟨HI.out.1.put _ _ 0 hgv.1, (putC_blk hgv.2 _ _ _).trans HI.out.2.1, putC_all HI.out.2.2 rfl⟩
  have HC := refWord_calls s wTrue n w3 hn hs (by decide)
  obtain ⟨x0, x1, x2, x3, x4, f0, f1, f2, f3, f4⟩ := Blk.five HI.out.2.2
  clear HQ hh hd hk IH hc
  go_enter Tryd.func25, Tryd.ntmps25
  go_upto_region 1 with fail
  rw [← Hw1.out, ← Hg.out]
  go_upto_region 4 with fail
  rw [← Hw2.out, ← Hgv.out]
  clear Hw1 Hg Hw2 Hgv
  go_upto_region 21 with fail
  -- the box
  change Code.wp _ _ _ _ (putC w2 gv 0 [.int .i64 2, .int .i64 1, .string ⟨#[]⟩, .slice none 0 0, .slice none 0 0])
  rw [← Hw3.out]
  clear Hw3 x0 x1 x2 x3 x4 f0 f1 f2 f3 f4 HI
  by_cases hp : Lib.hasPrefix (tl s n) wTrue.data.toList = true
  · rw [if_pos hp] at HD
    have hp2 := (word_pref s wTrue n hn).2 hp
    rw [if_pos hp2] at HC
    have HN : Hid (Q = .ok (.mk 2 1 [] [] [], tl s (n + 4)) ∧ n + 4 ≤ s.size) := ⟨by rw [HD.out, tl_drop]; rfl, hp2.1⟩
    rw [show ((n + wTrue.size : Nat) : Int) = (n : Int) + 4 by show ((n + 4 : Nat) : Int) = _; omega] at HC
    clear HD hp hp2
    unfold wTrue at HC
    go_wp2_with fail
    refine HC.mono ?_
    clear HC
    rintro e w4 ⟨rfl, hb4⟩
    have HI4 : Hid (Frm noB w w4 ∧ Blk w4 gr jZ 26 ∧ Blk w4 gv #[.int .i64 2, .int .i64 1, .string ⟨#[]⟩, .slice none 0 0, .slice none 0 0] 26) := ⟨HI3.out.1.trans (Frm.ofBelow hb4 _), HI3.out.2.1.below hb4, HI3.out.2.2.below hb4⟩
    have i0 : ¬ ((n : Int) + 4 < 0) := by omega
    clear hb4 HI3
    obtain ⟨x0, x1, x2, x3, x4, -⟩ := Blk.five HI4.out.2.2
    obtain ⟨y0, y1, y2, y3, y4, z0, z1, z2, z3, z4⟩ := Blk.five HI4.out.2.1
    go_wp2
    change bodyPost _ _ _ _ _ (putC w4 gr 0 [.int .i64 2, .int .i64 1, .string ⟨#[]⟩, .slice none 0 0, .slice none 0 0])
    refine ret_cell2 rfl rfl rfl rfl rfl (load_js (putC_all HI4.out.2.1 rfl) rfl) ?_
    rw [HN.out.1]
    exact ⟨HI4.out.1.put _ _ 0 hgr, _, _, n + 4, by go_num, HN.out.2, rfl, JAt.plain _ _ _ [], fun k hk => hk.elim⟩
  · rw [if_neg hp] at HD
    rw [if_neg (fun h => hp ((word_pref s wTrue n hn).1 h))] at HC
    have HN : Hid (Q = .error 181) := by rw [Hid, HD.out]; rfl
    clear HD hp
    unfold wTrue at HC
    go_wp2_with fail
    refine HC.mono ?_
    clear HC
    rintro e w4 ⟨rfl, hb4⟩
    have HI4 : Hid (Frm noB w w4 ∧ Blk w4 gr jZ 26 ∧ Blk w4 gv #[.int .i64 2, .int .i64 1, .string ⟨#[]⟩, .slice none 0 0, .slice none 0 0] 26) := ⟨HI3.out.1.trans (Frm.ofBelow hb4 _), HI3.out.2.1.below hb4, HI3.out.2.2.below hb4⟩
    clear hb4 HI3
    obtain ⟨y0, y1, y2, y3, y4, z0, z1, z2, z3, z4⟩ := Blk.five HI4.out.2.1
    go_wp2
    change bodyPost _ _ _ _ _ (putC w4 gr 0 [.int .i64 0, .int .i64 0, .string ⟨#[]⟩, .slice none 0 0, .slice none 0 0])
    refine ret_cell2 rfl rfl rfl rfl rfl (load_js (putC_all HI4.out.2.1 rfl) rfl) ?_
    rw [HN.out]
    exact ⟨HI4.out.1.put _ _ 0 hgr, rfl, .inl rfl⟩
set_option maxRecDepth 100000 in
set_option maxHeartbeats 8000000 in
theorem value102_calls (K0 : Nat) (s : ByteArray) (IH : DSpec s K0) (w : World) (n d : Nat) (hn : n ≤ s.size) (hs : s.size ≤ 1048576) (hk : 2 * (tl s n).length + 1 ≤ K0 + 1) (hd : d ≤ 16) (hlt : n < s.size) (hc : s[n].toNat = 102) :
    Calls Tryd.prog 25 #[.string s, .int .i64 (n : Int), .int .i64 ((d : Int) + 1)] w (RvR w s (bareF (K0 + 1) d (tl s n))) := by
  obtain ⟨Q, HQ⟩ : ∃ Q, Hid (Q = bareF (K0 + 1) d (tl s n)) := ⟨_, rfl⟩
  rw [← HQ.out]
  obtain ⟨w1, Hw1⟩ : ∃ w1, Hid (w1 = w.alloc (.cells #[.int .i64 0, .int .i64 0, .string ⟨#[]⟩, .slice none 0 0, .slice none 0 0] 26)) := ⟨_, rfl⟩
  obtain ⟨gr, Hg⟩ : ∃ gr, Hid (gr = w.heap.size) := ⟨_, rfl⟩
  obtain ⟨w2, Hw2⟩ : ∃ w2, Hid (w2 = w1.alloc (.cells #[.int .i64 0, .int .i64 0, .string ⟨#[]⟩, .slice none 0 0, .slice none 0 0] 26)) := ⟨_, rfl⟩
  obtain ⟨gv, Hgv⟩ : ∃ gv, Hid (gv = w1.heap.size) := ⟨_, rfl⟩
  have hb1 : Below w.heap.size w w1 := by rw [Hw1.out]; exact below_new _ _
  have hb2 : Below w1.heap.size w1 w2 := by rw [Hw2.out]; exact below_new _ _
  have hB1 : Blk w1 gr jZ 26 := by rw [Hw1.out, Hg.out]; exact Blk.new _ _ _
  have hB2 : Blk w2 gv jZ 26 := by rw [Hw2.out, Hgv.out]; exact Blk.new _ _ _
  have hgr : w.heap.size ≤ gr := by rw [Hg.out]; exact Nat.le_refl _
  have hgv : w.heap.size ≤ gv ∧ gr ≠ gv := by
    have q1 := hB1.lt
    have q2 := Hgv.out
    have q3 := hb1.size
    omega
  have HI : Hid (Frm noB w w2 ∧ Blk w2 gr jZ 26 ∧ Blk w2 gv jZ 26) := ⟨(Frm.ofBelow hb1 _).trans (Frm.ofBelow hb2 _), hB1.below hb2, hB2⟩
  have hh : hdN (tl s n) = some s[n].toNat := tl_hd hlt
  clear hb1 hb2 hB1 hB2
  have q91 : ((s[n].toNat : Int) == 91) = false := by simp; omega
  have q123 : ((s[n].toNat : Int) == 123) = false := by simp; omega
  have q34 : ((s[n].toNat : Int) == 34) = false := by simp; omega
  have q110 : ((s[n].toNat : Int) == 110) = false := by simp; omega
  have q116 : ((s[n].toNat : Int) == 116) = false := by simp; omega
  have q102 : ((s[n].toNat : Int) == 102) = true := by rw [hc]; rfl
  have HD : Hid (Q = plR (wordP (tl s n))) := by rw [Hid, HQ.out, bareF_word hh (by omega)]
  rw [wordP_f (by rw [hh, hc])] at HD
  obtain ⟨w3, Hw3⟩ : ∃ w3, Hid (w3 = w2.setCell ⟨gv, 0, none⟩ (.int .i64 2)) := ⟨_, rfl⟩
  have HI3 : Hid (Frm noB w w3 ∧ Blk w3 gr jZ 26 ∧ Blk w3 gv #[.int .i64 2, .int .i64 0, .string ⟨#[]⟩, .slice none 0 0, .slice none 0 0] 26) := by
    rw [Hid, Hw3.out]
    exact ⟨HI.out.1.setCell _ _ (.inr hgv.1), (heap_setCell_other _ _ _ _ hgv.2).trans HI.out.2.1, Lib.heap_setCell_same (i := 0) HI.out.2.2 _⟩
  have HC := refWord_calls s wFalse n w3 hn hs (by decide)
  obtain ⟨x0, x1, x2, x3, x4, f0, f1, f2, f3, f4⟩ := Blk.five HI.out.2.2
  clear HQ hh hd hk IH hc
  go_enter Tryd.func25, Tryd.ntmps25
  go_upto_region 1 with fail
  rw [← Hw1.out, ← Hg.out]
  go_upto_region 4 with fail
  rw [← Hw2.out, ← Hgv.out]
  clear Hw1 Hg Hw2 Hgv
  go_upto_region 24 with fail
  rw [← Hw3.out]
  clear Hw3 x0 x1 x2 x3 x4 f0 f1 f2 f3 f4 HI
  by_cases hp : Lib.hasPrefix (tl s n) wFalse.data.toList = true
  · rw [if_pos hp] at HD
    have hp2 := (word_pref s wFalse n hn).2 hp
    rw [if_pos hp2] at HC
    have HN : Hid (Q = .ok (.mk 2 0 [] [] [], tl s (n + 5)) ∧ n + 5 ≤ s.size) := ⟨by rw [HD.out, tl_drop]; rfl, hp2.1⟩
    rw [show ((n + wFalse.size : Nat) : Int) = (n : Int) + 5 by show ((n + 5 : Nat) : Int) = _; omega] at HC
    clear HD hp hp2
    unfold wFalse at HC
    go_wp2_with fail
    refine HC.mono ?_
    clear HC
    rintro e w4 ⟨rfl, hb4⟩
    have HI4 : Hid (Frm noB w w4 ∧ Blk w4 gr jZ 26 ∧ Blk w4 gv #[.int .i64 2, .int .i64 0, .string ⟨#[]⟩, .slice none 0 0, .slice none 0 0] 26) := ⟨HI3.out.1.trans (Frm.ofBelow hb4 _), HI3.out.2.1.below hb4, HI3.out.2.2.below hb4⟩
    have i0 : ¬ ((n : Int) + 5 < 0) := by omega
    clear hb4 HI3
    obtain ⟨x0, x1, x2, x3, x4, -⟩ := Blk.five HI4.out.2.2
    obtain ⟨y0, y1, y2, y3, y4, z0, z1, z2, z3, z4⟩ := Blk.five HI4.out.2.1
    go_wp2
    change bodyPost _ _ _ _ _ (putC w4 gr 0 [.int .i64 2, .int .i64 0, .string ⟨#[]⟩, .slice none 0 0, .slice none 0 0])
    refine ret_cell2 rfl rfl rfl rfl rfl (load_js (putC_all HI4.out.2.1 rfl) rfl) ?_
    rw [HN.out.1]
    exact ⟨HI4.out.1.put _ _ 0 hgr, _, _, n + 5, by go_num, HN.out.2, rfl, JAt.plain _ _ _ [], fun k hk => hk.elim⟩
  · rw [if_neg hp] at HD
    rw [if_neg (fun h => hp ((word_pref s wFalse n hn).1 h))] at HC
    have HN : Hid (Q = .error 181) := by rw [Hid, HD.out]; rfl
    clear HD hp
    unfold wFalse at HC
    go_wp2_with fail
    refine HC.mono ?_
    clear HC
    rintro e w4 ⟨rfl, hb4⟩
    have HI4 : Hid (Frm noB w w4 ∧ Blk w4 gr jZ 26 ∧ Blk w4 gv #[.int .i64 2, .int .i64 0, .string ⟨#[]⟩, .slice none 0 0, .slice none 0 0] 26) := ⟨HI3.out.1.trans (Frm.ofBelow hb4 _), HI3.out.2.1.below hb4, HI3.out.2.2.below hb4⟩
    clear hb4 HI3
    obtain ⟨y0, y1, y2, y3, y4, z0, z1, z2, z3, z4⟩ := Blk.five HI4.out.2.1
    go_wp2
    change bodyPost _ _ _ _ _ (putC w4 gr 0 [.int .i64 0, .int .i64 0, .string ⟨#[]⟩, .slice none 0 0, .slice none 0 0])
    refine ret_cell2 rfl rfl rfl rfl rfl (load_js (putC_all HI4.out.2.1 rfl) rfl) ?_
    rw [HN.out]
    exact ⟨HI4.out.1.put _ _ 0 hgr, rfl, .inl rfl⟩
set_option maxRecDepth 100000 in
set_option maxHeartbeats 8000000 in
theorem valuenum_calls (K0 : Nat) (s : ByteArray) (IH : DSpec s K0) (w : World) (n d : Nat) (hn : n ≤ s.size) (hs : s.size ≤ 1048576) (hk : 2 * (tl s n).length + 1 ≤ K0 + 1) (hd : d ≤ 16) (hlt : n < s.size) (h1 : s[n].toNat ≠ 91) (h2 : s[n].toNat ≠ 123) (h3 : s[n].toNat ≠ 34) (h4 : s[n].toNat ≠ 110) (h5 : s[n].toNat ≠ 116) (h6 : s[n].toNat ≠ 102) :
    Calls Tryd.prog 25 #[.string s, .int .i64 (n : Int), .int .i64 ((d : Int) + 1)] w (RvR w s (bareF (K0 + 1) d (tl s n))) := by
  obtain ⟨Q, HQ⟩ : ∃ Q, Hid (Q = bareF (K0 + 1) d (tl s n)) := ⟨_, rfl⟩
  rw [← HQ.out]
  obtain ⟨w1, Hw1⟩ : ∃ w1, Hid (w1 = w.alloc (.cells #[.int .i64 0, .int .i64 0, .string ⟨#[]⟩, .slice none 0 0, .slice none 0 0] 26)) := ⟨_, rfl⟩
  obtain ⟨gr, Hg⟩ : ∃ gr, Hid (gr = w.heap.size) := ⟨_, rfl⟩
  obtain ⟨w2, Hw2⟩ : ∃ w2, Hid (w2 = w1.alloc (.cells #[.int .i64 0, .int .i64 0, .string ⟨#[]⟩, .slice none 0 0, .slice none 0 0] 26)) := ⟨_, rfl⟩
  obtain ⟨gv, Hgv⟩ : ∃ gv, Hid (gv = w1.heap.size) := ⟨_, rfl⟩
  have hb1 : Below w.heap.size w w1 := by rw [Hw1.out]; exact below_new _ _
  have hb2 : Below w1.heap.size w1 w2 := by rw [Hw2.out]; exact below_new _ _
  have hB1 : Blk w1 gr jZ 26 := by rw [Hw1.out, Hg.out]; exact Blk.new _ _ _
  have hB2 : Blk w2 gv jZ 26 := by rw [Hw2.out, Hgv.out]; exact Blk.new _ _ _
  have hgr : w.heap.size ≤ gr := by rw [Hg.out]; exact Nat.le_refl _
  have hgv : w.heap.size ≤ gv ∧ gr ≠ gv := by
    have q1 := hB1.lt
    have q2 := Hgv.out
    have q3 := hb1.size
    omega
  have HI : Hid (Frm noB w w2 ∧ Blk w2 gr jZ 26 ∧ Blk w2 gv jZ 26) := ⟨(Frm.ofBelow hb1 _).trans (Frm.ofBelow hb2 _), hB1.below hb2, hB2⟩
  have hh : hdN (tl s n) = some s[n].toNat := tl_hd hlt
  clear hb1 hb2 hB1 hB2
  have q91 : ((s[n].toNat : Int) == 91) = false := by simp; omega
  have q123 : ((s[n].toNat : Int) == 123) = false := by simp; omega
  have q34 : ((s[n].toNat : Int) == 34) = false := by simp; omega
  have q110 : ((s[n].toNat : Int) == 110) = false := by simp; omega
  have q116 : ((s[n].toNat : Int) == 116) = false := by simp; omega
  have q102 : ((s[n].toNat : Int) == 102) = false := by simp; omega
  have HD : Hid (Q = nmR (docN (tl s n))) := by rw [Hid, HQ.out, bareF_num hh h1 h2 h3 h4 h5 h6]
  obtain ⟨w3, Hw3⟩ : ∃ w3, Hid (w3 = w2.setCell ⟨gv, 0, none⟩ (.int .i64 3)) := ⟨_, rfl⟩
  have HI3 : Hid (Frm noB w w3 ∧ Blk w3 gr jZ 26 ∧ Blk w3 gv #[.int .i64 3, .int .i64 0, .string ⟨#[]⟩, .slice none 0 0, .slice none 0 0] 26) := by
    rw [Hid, Hw3.out]
    exact ⟨HI.out.1.setCell _ _ (.inr hgv.1), (heap_setCell_other _ _ _ _ hgv.2).trans HI.out.2.1, Lib.heap_setCell_same (i := 0) HI.out.2.2 _⟩
  have HC := refNumber_calls s n w3 hn hs
  obtain ⟨x0, x1, x2, x3, x4, f0, f1, f2, f3, f4⟩ := Blk.five HI.out.2.2
  clear HQ hh hd hk IH h1 h2 h3 h4 h5 h6
  go_enter Tryd.func25, Tryd.ntmps25
  go_upto_region 1 with fail
  rw [← Hw1.out, ← Hg.out]
  go_upto_region 4 with fail
  rw [← Hw2.out, ← Hgv.out]
  clear Hw1 Hg Hw2 Hgv
  go_upto_region 7 with fail
  rw [← Hw3.out]
  clear Hw3 x0 x1 x2 x3 x4 f0 f1 f2 f3 f4 HI
  cases ht : docN (tl s n) with
  | none =>
    rw [ht] at HC HD
    have HN : Hid (Q = .error 181) := by rw [Hid, HD.out]; rfl
    clear HD ht
    go_wp2_with fail
    refine HC.mono ?_
    clear HC
    rintro e w4 ⟨hb4, rfl⟩
    have HI4 : Hid (Frm noB w w4 ∧ Blk w4 gr jZ 26 ∧ Blk w4 gv #[.int .i64 3, .int .i64 0, .string ⟨#[]⟩, .slice none 0 0, .slice none 0 0] 26) := ⟨HI3.out.1.trans (Frm.ofBelow hb4 _), HI3.out.2.1.below hb4, HI3.out.2.2.below hb4⟩
    obtain ⟨w5, Hw5⟩ : ∃ w5, Hid (w5 = w4.setCell ⟨gv, 1, none⟩ (.int .i64 0)) := ⟨_, rfl⟩
    have HI5 : Hid (Frm noB w w5 ∧ Blk w5 gr jZ 26) := by
      rw [Hid, Hw5.out]
      exact ⟨HI4.out.1.setCell _ _ (.inr hgv.1), (heap_setCell_other _ _ _ _ hgv.2).trans HI4.out.2.1⟩
    clear hb4 HI3
    obtain ⟨x0, x1, x2, x3, x4, f0, f1, f2, f3, f4⟩ := Blk.five HI4.out.2.2
    go_upto_region 25 with fail
    rw [← Hw5.out]
    clear Hw5 x0 x1 x2 x3 x4 f0 f1 f2 f3 f4 HI4
    obtain ⟨y0, y1, y2, y3, y4, z0, z1, z2, z3, z4⟩ := Blk.five HI5.out.2
    go_wp2
    change bodyPost _ _ _ _ _ (putC w5 gr 0 [.int .i64 0, .int .i64 0, .string ⟨#[]⟩, .slice none 0 0, .slice none 0 0])
    refine ret_cell2 rfl rfl rfl rfl rfl (load_js (putC_all HI5.out.2 rfl) rfl) ?_
    rw [HN.out]
    exact ⟨HI5.out.1.put _ _ 0 hgr, rfl, .inl rfl⟩
  | some p =>
    obtain ⟨t, l⟩ := p
    rw [ht] at HC HD
    have HN : Hid (Q = .ok (.mk 3 t [] [] [], l)) := by rw [Hid, HD.out]; rfl
    clear HD ht
    go_wp2_with fail
    refine HC.mono ?_
    clear HC
    rintro e w4 ⟨hb4, m, rfl, hm, htl⟩
    have HI4 : Hid (Frm noB w w4 ∧ Blk w4 gr jZ 26 ∧ Blk w4 gv #[.int .i64 3, .int .i64 0, .string ⟨#[]⟩, .slice none 0 0, .slice none 0 0] 26) := ⟨HI3.out.1.trans (Frm.ofBelow hb4 _), HI3.out.2.1.below hb4, HI3.out.2.2.below hb4⟩
    obtain ⟨w5, Hw5⟩ : ∃ w5, Hid (w5 = w4.setCell ⟨gv, 1, none⟩ (.int .i64 t)) := ⟨_, rfl⟩
    have HI5 : Hid (Frm noB w w5 ∧ Blk w5 gr jZ 26 ∧ Blk w5 gv #[.int .i64 3, .int .i64 t, .string ⟨#[]⟩, .slice none 0 0, .slice none 0 0] 26) := by
      rw [Hid, Hw5.out]
      exact ⟨HI4.out.1.setCell _ _ (.inr hgv.1), (heap_setCell_other _ _ _ _ hgv.2).trans HI4.out.2.1, Lib.heap_setCell_same (i := 1) HI4.out.2.2 _⟩
    have HM : Hid (m ≤ s.size ∧ tl s m = l) := ⟨hm, htl⟩
    have i0 : ¬ ((m : Int) < 0) := by omega
    clear hb4 HI3 hm htl
    obtain ⟨x0, x1, x2, x3, x4, f0, f1, f2, f3, f4⟩ := Blk.five HI4.out.2.2
    go_upto_region 25 with fail
    rw [← Hw5.out]
    clear Hw5 x0 x1 x2 x3 x4 f0 f1 f2 f3 f4 HI4
    obtain ⟨x0, x1, x2, x3, x4, -⟩ := Blk.five HI5.out.2.2
    obtain ⟨y0, y1, y2, y3, y4, z0, z1, z2, z3, z4⟩ := Blk.five HI5.out.2.1
    go_wp2
    change bodyPost _ _ _ _ _ (putC w5 gr 0 [.int .i64 3, .int .i64 t, .string ⟨#[]⟩, .slice none 0 0, .slice none 0 0])
    refine ret_cell2 rfl rfl rfl rfl rfl (load_js (putC_all HI5.out.2.1 rfl) rfl) ?_
    rw [HN.out]
    exact ⟨HI5.out.1.put _ _ 0 hgr, _, _, m, by trivial, HM.out.1, HM.out.2, JAt.plain _ _ _ [], fun k hk => hk.elim⟩
end Go.Proofs.YtelhgjepjieocaaDoor
