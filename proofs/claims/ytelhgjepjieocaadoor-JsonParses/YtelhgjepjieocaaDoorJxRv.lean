/- Layer 18 (json): the document's Value and Parse: the value is what the program reads. -/
import Derived.Test.YtelhgjepjieocaaDoorJxRvA
import Derived.Test.YtelhgjepjieocaaDoorJxRvB
import Derived.Test.YtelhgjepjieocaaDoorJxParse
namespace Go.Proofs.YtelhgjepjieocaaDoor
open Go.RowKit Go.Sort
set_option linter.unusedVariables false

theorem dspec (s : ByteArray) (hs : s.size ≤ 1048576) : ∀ K0, DSpec s K0
  | 0 => fun k hk d w n hn hf hd => by omega
  | K0 + 1 => fun k hk d w n hn hf hd => by
    have IH := dspec s hs K0
    rcases Nat.lt_or_ge k (K0 + 1) with h | h
    · exact IH k (by omega) d w n hn hf hd
    · obtain rfl : k = K0 + 1 := by omega
      by_cases hlt : n < s.size
      · by_cases h1 : s[n].toNat = 91
        · exact value91_calls K0 s IH w n d hn hs hf hd hlt h1
        by_cases h2 : s[n].toNat = 123
        · exact value123_calls K0 s IH w n d hn hs hf hd hlt h2
        by_cases h3 : s[n].toNat = 34
        · exact value34_calls K0 s IH w n d hn hs hf hd hlt h3
        by_cases h4 : s[n].toNat = 110
        · exact value110_calls K0 s IH w n d hn hs hf hd hlt h4
        by_cases h5 : s[n].toNat = 116
        · exact value116_calls K0 s IH w n d hn hs hf hd hlt h5
        by_cases h6 : s[n].toNat = 102
        · exact value102_calls K0 s IH w n d hn hs hf hd hlt h6
        exact valuenum_calls K0 s IH w n d hn hs hf hd hlt h1 h2 h3 h4 h5 h6
      · exact valueNil_calls K0 s w n d hs hlt

set_option maxRecDepth 100000 in
set_option maxHeartbeats 8000000 in
theorem refParse_calls (s : ByteArray) (w : World) (hs : s.size ≤ 140737488351232) :
    Calls Tryd.prog 10 #[.string s] w (PrR w (parseJ s)) := by
  obtain ⟨Q, HQ⟩ : ∃ Q, Hid (Q = parseJ s) := ⟨_, rfl⟩
  rw [← HQ.out]
  obtain ⟨w1, Hw1⟩ : ∃ w1, Hid (w1 = w.alloc (.cells jZ 26)) := ⟨_, rfl⟩
  obtain ⟨gr, Hg⟩ : ∃ gr, Hid (gr = w.heap.size) := ⟨_, rfl⟩
  have HB1 : Hid (Frm noB w w1 ∧ Blk w1 gr jZ 26) := by
    rw [Hid, Hw1.out, Hg.out]
    exact ⟨Frm.ofBelow (below_new _ _) _, Blk.new _ _ _⟩
  have hgr : w.heap.size ≤ gr := by rw [Hg.out]; exact Nat.le_refl _
  have toB : ∀ {W : World}, Frm noB w W → Below w.heap.size w W := fun h => h.toBelow (Nat.le_refl _) (fun k hk => hk.elim)
  unfold jZ jC at Hw1
  by_cases hl : 65536 < s.size
  · have i1 : (65536 : Int) < (s.size : Int) := by omega
    have HN : Hid (Q = .error 180) := by rw [Hid, HQ.out, parseJ, if_pos hl]
    clear HQ hl
    go_enter Tryd.func10, Tryd.ntmps10
    go_upto_region 1 with fail
    rw [← Hw1.out, ← Hg.out]
    clear Hw1 Hg
    obtain ⟨y0, y1, y2, y3, y4, z0, z1, z2, z3, z4⟩ := Blk.five HB1.out.2
    go_wp2
    change bodyPost _ _ _ _ _ (putC w1 gr 0 [.int .i64 0, .int .i64 0, .string ⟨#[]⟩, .slice none 0 0, .slice none 0 0])
    refine ret_cellE rfl rfl rfl rfl (load_js (putC_all HB1.out.2 rfl) rfl) ?_
    rw [HN.out]
    exact ⟨toB (HB1.out.1.put _ _ 0 hgr), rfl, .inl rfl⟩
  · have i1 : ¬ ((65536 : Int) < (s.size : Int)) := by omega
    have hs2 : s.size ≤ 1048576 := by omega
    have HE : Hid (Q = match spR (bareF (2 * s.size + 1) 0 (spL (tl s 0))) with
      | .error c => .error c
      | .ok (v, r) => if r = [] then .ok v else .error 181) := by
      rw [Hid, HQ.out, parseJ, if_neg hl, valF]
      rfl
    have HSK := refSpace_calls s 0 w1 (Nat.zero_le _) hs2
    have HDS : Hid (DSpec s (2 * s.size + 1)) := dspec s hs2 _
    clear HQ hl
    go_enter Tryd.func10, Tryd.ntmps10
    go_upto_region 1 with fail
    rw [← Hw1.out, ← Hg.out]
    clear Hw1 Hg
    go_wp2_with fail
    refine HSK.mono ?_
    clear HSK
    rintro e w2 ⟨hb2, m, rfl, hm, htl⟩
    have HB2 : Hid (Frm noB w w2 ∧ Blk w2 gr jZ 26) := ⟨HB1.out.1.trans (Frm.ofBelow hb2 _), HB1.out.2.below hb2⟩
    have HC := HDS.out (2 * s.size + 1) (Nat.le_refl _) 0 w2 m hm (by rw [tl_length]; omega) (Nat.zero_le _)
    rw [← htl] at HE
    clear HB1 hb2 htl HDS
    cases hr : bareF (2 * s.size + 1) 0 (tl s m) with
    | error c =>
      rw [hr] at HC
      have HN : Hid (Q = .error c) := by rw [Hid, HE.out, hr]; rfl
      clear hr HE
      go_wp2_with fail
      refine HC.mono ?_
      clear HC
      rintro e w3 ⟨f3, rfl, hcm⟩
      have hc0 : (c != 0) = true := by rcases hcm with h | h | h <;> subst h <;> rfl
      have HB3 : Hid (Frm noB w w3 ∧ Blk w3 gr jZ 26) := ⟨HB2.out.1.trans f3, (f3.block gr HB2.out.2.lt id).trans HB2.out.2⟩
      unfold jZ jC
      obtain ⟨w4, Hw4⟩ : ∃ w4, Hid (w4 = w3.alloc (.cells #[.int .i64 0, .int .i64 0, .string ⟨#[]⟩, .slice none 0 0, .slice none 0 0] 26)) := ⟨_, rfl⟩
      have HB4 : Hid (Frm noB w w4 ∧ Blk w4 gr jZ 26) := by
        have hb4 : Below w3.heap.size w3 w4 := by rw [Hw4.out]; exact below_new _ _
        exact ⟨HB3.out.1.trans (Frm.ofBelow hb4 _), HB3.out.2.below hb4⟩
      clear f3 HB2 HB3
      go_upto_region 4 with fail
      rw [← Hw4.out]
      clear Hw4
      obtain ⟨y0, y1, y2, y3, y4, z0, z1, z2, z3, z4⟩ := Blk.five HB4.out.2
      go_wp2
      change bodyPost _ _ _ _ _ (putC w4 gr 0 [.int .i64 0, .int .i64 0, .string ⟨#[]⟩, .slice none 0 0, .slice none 0 0])
      refine ret_cellE rfl rfl rfl rfl (load_js (putC_all HB4.out.2 rfl) rfl) ?_
      rw [HN.out]
      exact ⟨toB (HB4.out.1.put _ _ 0 hgr), rfl, .inr hcm⟩
    | ok p =>
      obtain ⟨v, r⟩ := p
      rw [hr] at HC
      have HN : Hid (Q = if spL r = [] then .ok v else .error 181) := by rw [Hid, HE.out, hr]; rfl
      clear hr HE
      go_wp2_with fail
      refine HC.mono ?_
      clear HC
      rintro e w3 ⟨f3, cs, S, m3, rfl, hm3, htl3, hj, hS⟩
      have HB3 : Hid (Frm noB w w3 ∧ Blk w3 gr jZ 26) := ⟨HB2.out.1.trans f3, (f3.block gr HB2.out.2.lt id).trans HB2.out.2⟩
      obtain ⟨xk, xn, xt, xa, xl, xc, ya, yl, yc, hcs⟩ := JAt.cs hj
      subst hcs
      obtain ⟨w4, Hw4⟩ : ∃ w4, Hid (w4 = w3.alloc (.cells #[.int .i64 xk, .int .i64 xn, .string xt, .slice xa xl xc, .slice ya yl yc] 26)) := ⟨_, rfl⟩
      obtain ⟨gb, Hgb⟩ : ∃ gb, Hid (gb = w3.heap.size) := ⟨_, rfl⟩
      have hb4 : Below w3.heap.size w3 w4 := by rw [Hw4.out]; exact below_new _ _
      have HB4 : Hid (Frm noB w w4 ∧ Blk w4 gr jZ 26 ∧ Blk w4 gb #[.int .i64 xk, .int .i64 xn, .string xt, .slice xa xl xc, .slice ya yl yc] 26) :=
        ⟨HB3.out.1.trans (Frm.ofBelow hb4 _), HB3.out.2.below hb4, by rw [Hw4.out, Hgb.out]; exact Blk.new _ _ _⟩
      have HJ4 : Hid (JAt w4 S v #[.int .i64 xk, .int .i64 xn, .string xt, .slice xa xl xc, .slice ya yl yc] ∧ ∀ k, S k → w.heap.size ≤ k ∧ k < w4.heap.size ∧ k ≠ gr) := ⟨JAt.frm (Frm.ofBelow hb4 noB) (fun _ _ h => h) _ _ hj, fun k hk => by
        have h1 := hS k hk
        have h2 := HB2.out.2.lt
        have h3 := HB2.out.1.size
        have h4 := hb4.size
        exact ⟨by omega, by omega, by omega⟩⟩
      have HSK := refSpace_calls s m3 w4 hm3 hs2
      rw [htl3] at HSK
      clear f3 HB2 HB3 hj hS hb4 htl3
      go_upto_region 4 with fail
      rw [← Hw4.out, ← Hgb.out]
      clear Hw4 Hgb
      go_wp2_with fail
      refine HSK.mono ?_
      clear HSK
      rintro e w5 ⟨hb5, m5, rfl, hm5, htl5⟩
      have HB5 : Hid (Frm noB w w5 ∧ Blk w5 gr jZ 26 ∧ Blk w5 gb #[.int .i64 xk, .int .i64 xn, .string xt, .slice xa xl xc, .slice ya yl yc] 26) :=
        ⟨HB4.out.1.trans (Frm.ofBelow hb5 _), HB4.out.2.1.below hb5, HB4.out.2.2.below hb5⟩
      have HJ5 : Hid (JAt w5 S v #[.int .i64 xk, .int .i64 xn, .string xt, .slice xa xl xc, .slice ya yl yc] ∧ ∀ k, S k → w.heap.size ≤ k ∧ k < w5.heap.size ∧ k ≠ gr) := ⟨JAt.frm (Frm.ofBelow hb5 noB) (fun _ _ h => h) _ _ HJ4.out.1, fun k hk => by
        have h1 := HJ4.out.2 k hk
        have h2 := hb5.size
        exact ⟨by omega, by omega, h1.2.2⟩⟩
      have hiff : spL r = [] ↔ m5 = s.size := by
        rw [← htl5]
        constructor
        · intro h
          have := congrArg List.length h
          rw [tl_length] at this
          have h0 : ([] : List UInt8).length = 0 := rfl
          omega
        · intro h
          exact tl_nil (by omega)
      clear hb5 htl5 HB4 HJ4
      obtain ⟨y0, y1, y2, y3, y4, z0, z1, z2, z3, z4⟩ := Blk.five HB5.out.2.1
      by_cases he : m5 = s.size
      · have q5 : ((m5 : Int) != (s.size : Int)) = false := by rw [he]; simp
        have HN2 : Hid (Q = .ok v) := by rw [Hid, HN.out, if_pos (hiff.2 he)]
        obtain ⟨x0, x1, x2, x3, x4, -⟩ := Blk.five HB5.out.2.2
        clear HN hiff he
        go_wp2
        change bodyPost _ _ _ _ _ (putC w5 gr 0 [.int .i64 xk, .int .i64 xn, .string xt, .slice xa xl xc, .slice ya yl yc])
        refine ret_cellE rfl rfl rfl rfl (load_js (putC_all HB5.out.2.1 rfl) rfl) ?_
        rw [HN2.out]
        exact ⟨toB (HB5.out.1.put _ _ 0 hgr), _, S, rfl, JAt.frm (frm_put w5 gr _) (fun k hk e => (HJ5.out.2 k hk).2.2 e) _ _ HJ5.out.1, fun k hk => by rw [putC_size]; exact ⟨(HJ5.out.2 k hk).1, (HJ5.out.2 k hk).2.1⟩⟩
      · have q5 : ((m5 : Int) != (s.size : Int)) = true := by simp; omega
        have HN2 : Hid (Q = .error 181) := by rw [Hid, HN.out, if_neg (fun h => he (hiff.1 h))]
        clear HN hiff he
        go_wp2
        change bodyPost _ _ _ _ _ (putC w5 gr 0 [.int .i64 0, .int .i64 0, .string ⟨#[]⟩, .slice none 0 0, .slice none 0 0])
        refine ret_cellE rfl rfl rfl rfl (load_js (putC_all HB5.out.2.1 rfl) rfl) ?_
        rw [HN2.out]
        exact ⟨toB (HB5.out.1.put _ _ 0 hgr), rfl, .inr (.inl rfl)⟩
end Go.Proofs.YtelhgjepjieocaaDoor
