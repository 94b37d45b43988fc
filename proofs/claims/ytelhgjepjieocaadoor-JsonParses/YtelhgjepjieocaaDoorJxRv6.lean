/- Layer 18 (json): the document's inside. -/
import Derived.Test.YtelhgjepjieocaaDoorJxRvP
namespace Go.Proofs.YtelhgjepjieocaaDoor
open Go.RowKit Go.Sort
set_option linter.unusedVariables false

set_option maxRecDepth 100000 in
set_option maxHeartbeats 8000000 in
theorem inside6_calls (K0 : Nat) (s : ByteArray) (IH : DSpec s K0) (w : World) (n d : Nat) (hlt : n < s.size) (hs : s.size ≤ 1048576) (hb : s[n].toNat = 123) (hk : 2 * (tl s n).length + 1 ≤ K0 + 1) (hd : d < 16) :
    Calls Tryd.prog 38 #[.string s, .int .i64 (n : Int), .int .i64 ((d : Int) + 1)] w (RvR w s (inF K0 6 125 d (tl s n))) := by
  have HIH : Hid (DSpec s K0) := IH
  obtain ⟨R, HR⟩ : ∃ R, Hid (R = inF K0 6 125 d (tl s n)) := ⟨_, rfl⟩
  rw [← HR.out]
  obtain ⟨w1, Hw1⟩ : ∃ w1, Hid (w1 = w.alloc (.cells jZ 26)) := ⟨_, rfl⟩
  obtain ⟨gr, Hg⟩ : ∃ gr, Hid (gr = w.heap.size) := ⟨_, rfl⟩
  obtain ⟨w2, Hw2⟩ : ∃ w2, Hid (w2 = w1.alloc (.cells #[.int .i64 5, .int .i64 0, .string ⟨#[]⟩, .slice none 0 0, .slice none 0 0] 26)) := ⟨_, rfl⟩
  obtain ⟨gv, Hgv⟩ : ∃ gv, Hid (gv = w1.heap.size) := ⟨_, rfl⟩
  have hb1 : Below w.heap.size w w1 := by rw [Hw1.out]; exact below_new _ _
  have hb2 : Below w1.heap.size w1 w2 := by rw [Hw2.out]; exact below_new _ _
  have hB1 : Blk w1 gr jZ 26 := by rw [Hw1.out, Hg.out]; exact Blk.new _ _ _
  have hB2 : Blk w2 gv (jC 5 0 ⟨#[]⟩ (.slice none 0 0) (.slice none 0 0)) 26 := by rw [Hw2.out, Hgv.out]; exact Blk.new _ _ _
  have hgr : w.heap.size ≤ gr := by rw [Hg.out]; exact Nat.le_refl _
  have HW2 : Hid (InI w gv gr 5 (fun _ => False) [] [] (.slice none 0 0) (.slice none 0 0) [] w2) := by
    have q1 := hB1.lt
    have q2 := Hgv.out
    have q3 := hb1.size
    exact ⟨hB2, hB1.below hb2, Ow.nil _ _ _, OwI.nil _ _ _, fun k hk => hk.elim, ⟨by omega, hgr, by omega⟩, ⟨fun h => h, fun h => h⟩, fun k hk => (by cases hk), fun k hk => (by cases hk), (Frm.ofBelow hb1 _).trans (Frm.ofBelow hb2 _)⟩
  have qo : ((s[n].toNat : Int) == 123) = true := by rw [hb]; rfl
  have hkk : Hid (2 * (tl s n).length + 1 ≤ K0 + 1) := hk
  have hn1 : ((n + 1 : Nat) : Int) = (n : Int) + 1 := by omega
  have hdI : ((d + 1 : Nat) : Int) = (d : Int) + 1 := by omega
  obtain ⟨w3, Hw3⟩ : ∃ w3, Hid (w3 = w2.setCell ⟨gv, 0, none⟩ (.int .i64 6)) := ⟨_, rfl⟩
  have HW3 : Hid (InI w gv gr 6 (fun _ => False) [] [] (.slice none 0 0) (.slice none 0 0) [] w3) := by
    have hF : Frm (fun k => k = gv) w2 w3 := by rw [Hw3.out]; exact (Frm.refl (fun k => k = gv) w2).setCell ⟨gv, 0, none⟩ _ (.inl rfl)
    have hgb := HW2.out.gb
    refine ⟨?_, (hF.block gr HW2.out.rs.lt (fun e => hgb.2.2 e.symm)).trans HW2.out.rs, Ow.nil _ _ _, OwI.nil _ _ _, fun k hk => hk.elim, hgb, ⟨fun h => h, fun h => h⟩, fun k hk => (by cases hk), fun k hk => (by cases hk), HW2.out.frm.compJ hF (fun i hi e => by omega)⟩
    rw [Hw3.out]
    exact Lib.heap_setCell_same (i := 0) HW2.out.bx (.int .i64 6)
  obtain ⟨x0, x1, x2, x3, x4, f0, f1, f2, f3, f4⟩ := Blk.five HW2.out.bx
  have HSK := refSpace_calls s (n + 1) w3 (by omega) hs
  rw [hn1] at HSK
  clear IH hk hb1 hb2 hB1 hB2
  unfold jZ jC at Hw1
  go_enter Tryd.func38, Tryd.ntmps38
  go_upto_region 1 with fail
  rw [← Hw1.out, ← Hg.out]
  go_upto_region 3 with fail
  rw [← Hw2.out, ← Hgv.out]
  clear Hw1 Hg Hw2 Hgv
  go_upto_region 6 with fail
  rw [← Hw3.out]
  clear Hw3 x0 x1 x2 x3 x4 f0 f1 f2 f3 f4 HW2
  go_wp2_with fail
  refine HSK.mono ?_
  clear HSK
  rintro e wa ⟨hba, m, rfl, hm, htl⟩
  have HWa : Hid (InI w gv gr 6 (fun _ => False) [] [] (.slice none 0 0) (.slice none 0 0) [] wa) := HW3.out.more hba
  have HE : Hid (R = if hdN (tl s m) = some 125 then .ok (.mk 6 0 [] [] [], (tl s m).tail) else elF K0 6 125 d (tl s m) [] []) := by
    rw [Hid, HR.out, inF, tl_tail hlt, htl]
  have HSP : Hid (spL (tl s m) = tl s m ∧ 2 * (tl s m).length + 2 ≤ K0) := by
    have h1 := spL_len (tl s (n + 1))
    have h2 := hkk.out
    rw [← htl, tl_length, tl_length] at h1
    rw [tl_length] at h2
    refine ⟨by rw [htl, spL_spL], ?_⟩
    rw [tl_length]
    omega
  clear HW3 hba htl hkk HR qo hn1 hb
  go_upto_region 8 with fail
  go_cut [40] from 30 to 40 (fun x wx => wx = wa ∧ ∃ b : Bool, x = .bool b ∧ Hid (if b = true then m < s.size ∧ hdN (tl s m) = some 125 else ¬ hdN (tl s m) = some 125))
  case first =>
    by_cases hml : m < s.size
    · by_cases hc : s[m].toNat = 125
      · have qc : ((s[m].toNat : Int) == 125) = true := by rw [hc]; rfl
        go_wp2
        go_meet
        exact ⟨rfl, _, rfl, hml, by rw [tl_hd hml, hc]⟩
      · have qc : ((s[m].toNat : Int) == 125) = false := by simp; omega
        go_wp2
        go_meet
        exact ⟨rfl, _, rfl, by rw [if_neg (by simp), tl_hd hml]; intro e; exact hc (Option.some.inj e)⟩
    · go_wp2
      go_meet
      exact ⟨rfl, _, rfl, by rw [if_neg (by simp), tl_hd0 hml]; intro e; cases e⟩
  case rest =>
    obtain ⟨rfl, b, rfl, HBB⟩ := hcut
    cases b with
    | true =>
      have hml : m < s.size := HBB.out.1
      have HN : Hid (R = .ok (.mk 6 0 [] [] [], tl s (m + 1))) := by rw [Hid, HE.out, if_pos HBB.out.2, tl_tail hml]
      clear HE HSP HBB
      obtain ⟨SW, HSW⟩ : ∃ SW : Nat → Prop, Hid (JAt wc SW (.mk 6 0 [] ([] : List (List UInt8)) ([] : List Js)) (jC 6 0 ⟨#[]⟩ (.slice none ([] : List (List UInt8)).length 0) (.slice none ([] : List Js).length 0)) ∧ (∀ k, SW k → w.heap.size ≤ k ∧ k < wc.heap.size) ∧ ¬ SW gr) := HWa.out.whole
      have HEF : Hid (Frm noB w wc ∧ Blk wc gr jZ 26) := ⟨HWa.out.frm, HWa.out.rs⟩
      obtain ⟨x0, x1, x2, x3, x4, -⟩ := Blk.five HWa.out.bx
      obtain ⟨y0, y1, y2, y3, y4, z0, z1, z2, z3, z4⟩ := Blk.five HWa.out.rs
      clear HWa
      go_wp2
      change bodyPost _ _ _ _ _ (putC wc gr 0 [.int .i64 6, .int .i64 0, .string ⟨#[]⟩, .slice none ([] : List (List UInt8)).length 0, .slice none ([] : List Js).length 0])
      refine ret_cell2 rfl rfl rfl rfl rfl (load_js (putC_all HEF.out.2 rfl) rfl) ?_
      rw [HN.out]
      exact ⟨HEF.out.1.put _ _ 0 hgr, _, SW, m + 1, by go_num, by omega, rfl, JAt.frm (frm_put wc gr _) (fun k hk e => HSW.out.2.2 (by rw [← e]; exact hk)) _ _ HSW.out.1, fun k hk => by rw [putC_size]; exact HSW.out.2.1 k hk⟩
    | false =>
      have HI : Hid (InS w gv gr s 6 125 K0 d R m wc) := by
        refine ⟨K0, _, [], [], _, _, _, HWa.out, ?_, HSP.out.1, HSP.out.2, Nat.le_refl _, Nat.zero_le _, Nat.le_refl _⟩
        rw [HE.out, if_neg HBB.out]
      clear HWa HE HSP HBB
      go_wp2
      go_loopw [1] (fun i wr => ∃ m : Nat, i = .int .i64 (m : Int) ∧ m ≤ s.size ∧ Hid (InS w gv gr s 6 125 K0 d R m wr)) (fun i _ => s.size - (intOf i).toNat)
      case atStart => exact ⟨m, rfl, hm, HI⟩
      case round =>
        clear HI hm
        obtain ⟨m, rfl, hm, HI⟩ := hrel
        obtain ⟨w0, hw0⟩ : ∃ w0, w0 = wr := ⟨wr, rfl⟩
        subst hw0
        obtain ⟨k', S, ns, its, nv, iv, css, hW, hRe, hsp, hk2, hk3, hitm, hnsl⟩ := HI.out
        obtain ⟨na, nc, rfl, -⟩ := hW.nm.shape
        obtain ⟨ia, ic, rfl⟩ := hW.it.shape
        have hnl0 : (ns.map strV).length = ns.length := List.length_map ..
        rw [hnl0] at hW
        have HW : Hid (InI w gv gr 6 S ns its (.slice na ns.length nc) (.slice ia its.length ic) css w0) := hW
        clear hW HI hnl0
        obtain ⟨k2, rfl⟩ : ∃ k2, k' = k2 + 1 := ⟨k' - 1, by omega⟩
        rw [tl_length] at hk2
        rw [elF_name, hsp] at hRe
        clear hsp
        have HTX := refText_calls s m w0 hm hs
        cases ht : textP (tl s m) with
        | none =>
          rw [ht] at HTX hRe
          have HRe : Hid (R = .error 181) := hRe
          clear hRe ht hk2 hk3 hitm hnsl
          go_wp2_with fail
          refine HTX.mono ?_
          clear HTX
          rintro e w7 ⟨hb7, rfl⟩
          have HW7 : Hid (InI w gv gr 6 S ns its (.slice na ns.length nc) (.slice ia its.length ic) css w7) := HW.out.more hb7
          clear hb7 HW
          have HEF : Hid (Frm noB w w7 ∧ Blk w7 gr jZ 26) := ⟨HW7.out.frm, HW7.out.rs⟩
          obtain ⟨y0, y1, y2, y3, y4, z0, z1, z2, z3, z4⟩ := Blk.five HW7.out.rs
          clear HW7
          go_wp2
          change bodyPost _ _ _ _ _ (putC w7 gr 0 [.int .i64 0, .int .i64 0, .string ⟨#[]⟩, .slice none 0 0, .slice none 0 0])
          refine ret_cell2 rfl rfl rfl rfl rfl (load_js (putC_all HEF.out.2 rfl) rfl) ?_
          rw [HRe.out]
          exact ⟨HEF.out.1.put _ _ 0 hgr, rfl, .inl rfl⟩
        | some p =>
          obtain ⟨t, r⟩ := p
          have htl := textP_len ht
          rw [ht] at HTX hRe
          have HRe : Hid (R = if t ∈ ns then .error 183 else if hdN (spL r) = some 58 then elT k2 6 125 d (ns ++ [t]) its (spL (spL r).tail) else .error 181) := hRe
          clear hRe ht
          go_wp2_with fail
          refine HTX.mono ?_
          clear HTX
          rintro e w7 ⟨hb7, m2, rfl, hm2, htl2⟩
          have hmm : m < m2 := by
            rw [← htl2, tl_length, tl_length] at htl
            omega
          have i0 : ¬ ((m2 : Int) < 0) := by omega
          have HT2 : Hid (tl s m2 = r) := htl2
          have HW7 : Hid (InI w gv gr 6 S ns its (.slice na ns.length nc) (.slice ia its.length ic) css w7) := HW.out.more hb7
          clear hb7 HW htl htl2
          obtain ⟨x0, x1, x2, x3, x4, -⟩ := Blk.five HW7.out.bx
          have hnsz : ns.length ≤ 1048576 := by omega
          go_wp2
          go_loopw [57] (fun i wr => wr = w7 ∧ ∃ j : Nat, i = .int .i64 (j : Int) ∧ j ≤ ns.length ∧ Hid (∀ (q : Nat) (h : q < ns.length), q < j → ns[q] ≠ t)) (fun i _ => ns.length - (intOf i).toNat)
          case atStart => exact ⟨rfl, 0, rfl, Nat.zero_le _, fun q h h0 => absurd h0 (Nat.not_lt_zero _)⟩
          case round =>
            obtain ⟨rfl, j, rfl, hj, HJ⟩ := hrel
            by_cases hjn : j < ns.length
            · obtain ⟨b, off, rfl, hcell⟩ : ∃ b off, na = some ⟨b, off, none⟩ ∧ wr.cell? ⟨b, off + j, none⟩ = some (.string (nmB ns[j])) := by
                obtain ⟨b, off, h2, h3⟩ := ow_at_str HW7.out.nm hjn
                exact ⟨b, off, h2, h3⟩
              by_cases heq : ns[j] = t
              · have q1 : ((nmB ns[j]).toList == (nmB t).toList) = true := by rw [heq]; simp
                have HRe2 : Hid (R = .error 183) := by
                  rw [Hid, HRe.out, if_pos (by rw [← heq]; exact List.getElem_mem hjn)]
                clear HRe HJ heq HT2
                have HW8 := HW7
                clear HW7
                clear x0 x1 x2 x3 x4
                have HEF : Hid (Frm noB w wr ∧ Blk wr gr jZ 26) := ⟨HW8.out.frm, HW8.out.rs⟩
                obtain ⟨y0, y1, y2, y3, y4, z0, z1, z2, z3, z4⟩ := Blk.five HW8.out.rs
                clear HW8
                go_wp2
                change bodyPost _ _ _ _ _ (putC wr gr 0 [.int .i64 0, .int .i64 0, .string ⟨#[]⟩, .slice none 0 0, .slice none 0 0])
                refine ret_cell2 rfl rfl rfl rfl rfl (load_js (putC_all HEF.out.2 rfl) rfl) ?_
                rw [HRe2.out]
                exact ⟨HEF.out.1.put _ _ 0 hgr, rfl, .inr (.inr rfl)⟩
              · have q1 : ((nmB ns[j]).toList == (nmB t).toList) = false := by
                  rw [beq_eq_false_iff_ne]
                  intro e
                  rw [ByteArray.toList_eq, ByteArray.toList_eq] at e
                  exact heq (by simpa [nmB] using e)
                have HJ2 : Hid (∀ (q : Nat) (h : q < ns.length), q < j + 1 → ns[q] ≠ t) := fun q h hq => by
                  rcases Nat.lt_or_ge q j with h1 | h1
                  · exact HJ.out q h h1
                  · obtain rfl : q = j := by omega
                    exact heq
                clear HJ heq HRe HW7
                go_wp2
                go_roundw
                case rel => exact ⟨by trivial, j + 1, by go_num, by omega, HJ2⟩
                case measure => simp [intOf]; omega
            · have hnm : t ∉ ns := fun hmem => by
                obtain ⟨q, hq, e⟩ := List.getElem_of_mem hmem
                exact HJ.out q hq (by omega) e
              have HRe2 : Hid (R = if hdN (spL r) = some 58 then elT k2 6 125 d (ns ++ [t]) its (spL (spL r).tail) else .error 181) := by rw [Hid, HRe.out, if_neg hnm]
              clear HJ HRe hnm
              have x3' : (wr.alloc (.cells #[strV t] 9)).cell? ⟨gv, 3, none⟩ = some (.slice na ns.length nc) := (HW7.out.bx.alloc _).cell 3 rfl
              have HNm : Hid (Ow wr w.heap.size 9 (.slice na ns.length nc) (ns.map strV) ∧ w.heap.size ≤ wr.heap.size ∧ (ns.map strV).length = ns.length) := ⟨HW7.out.nm, HW7.out.frm.size, List.length_map ..⟩
              unfold strV at x3'
              go_wp2_with (at_builtin; go_must (refine append_u wr rfl (.tmp 67) (.tmp 69) 23 9 (.string ⟨#[]⟩) 16 Tryd.underlying23 info_strJ rfl rfl w.heap.size _ (ns.map strV) rfl (.string (nmB t)) rfl _ rfl rfl HNm.out.1 (by rw [HNm.out.2.2]; omega) (by rw [HNm.out.2.2]; omega) HNm.out.2.1 ?_))
              intro v8 w8 ho8 hg8
              obtain ⟨na8, nc8, rfl, -⟩ := ho8.shape
              have hn8 : (ns.map strV ++ [Value.string (nmB t)]).length = ns.length + 1 := by rw [List.length_append, HNm.out.2.2]; rfl
              rw [hn8] at ho8 hg8 ⊢
              have hW9 := HW7.out.pushN (t := t) ho8 hg8
              have hb8 : Blk w8 gv (jC 6 0 ⟨#[]⟩ (.slice na ns.length nc) (.slice ia its.length ic)) 26 := ((Frm.ofGrewT hg8).block gv HW7.out.bx.lt (fun e => (HW7.out.nvM e).1 rfl)).trans HW7.out.bx
              obtain ⟨u0, u1, u2, u3, u4, p0, p1, p2, p3, p4⟩ := Blk.five hb8
              obtain ⟨w9, Hw9⟩ : ∃ w9, Hid (w9 = w8.setCell ⟨gv, 3, none⟩ (.slice na8 (ns.length + 1) nc8)) := ⟨_, rfl⟩
              rw [← Hw9.out] at hW9
              obtain ⟨ns9, Hns9⟩ : ∃ ns9, Hid (ns9 = ns ++ [t]) := ⟨_, rfl⟩
              have hn9 : ns9.length = ns.length + 1 := by rw [Hns9.out]; simp
              have hns9 : ns9.length ≤ its.length + 1 := by omega
              rw [← Hns9.out, ← hn9] at hW9
              rw [← Hns9.out] at HRe2
              have HW9 : Hid (InI w gv gr 6 S ns9 its (.slice na8 ns9.length nc8) (.slice ia its.length ic) css w9) := hW9
              rw [← hn9] at Hw9
              have HSK := refSpace_calls s m2 w9 hm2 hs
              clear hW9 hb8 ho8 hg8 HW7 HNm x0 x1 x2 x3 x4 x3' hnsl Hns9
              go_upto_region 21 with fail
              rw [← hn9, ← Hw9.out]
              clear Hw9 u0 u1 u2 u3 u4 p0 p1 p2 p3 p4 hn8 hn9
              go_wp2_with fail
              refine HSK.mono ?_
              clear HSK
              rintro e wb ⟨hbb, m3, rfl, hm3, htl3⟩
              have HWb : Hid (InI w gv gr 6 S ns9 its (.slice na8 ns9.length nc8) (.slice ia its.length ic) css wb) := HW9.out.more hbb
              have h23 : s.size - m3 ≤ s.size - m2 := by
                have h1 := spL_len (tl s m2)
                rw [← htl3, tl_length, tl_length] at h1
                exact h1
              rw [HT2.out] at htl3
              rw [← htl3] at HRe2
              clear HW9 hbb HT2 htl3
              by_cases hl3 : m3 < s.size
              · by_cases h58 : s[m3].toNat = 58
                · have q58 : ((s[m3].toNat : Int) != 58) = false := by rw [h58]; rfl
                  have HRe : Hid (R = elT k2 6 125 d ns9 its (spL (tl s (m3 + 1)))) := by
                    rw [Hid, HRe2.out, if_pos (by rw [tl_hd hl3, h58]), tl_tail hl3]
                  have HSK := refSpace_calls s (m3 + 1) wb (by omega) hs
                  rw [show ((m3 + 1 : Nat) : Int) = (m3 : Int) + 1 by omega] at HSK
                  clear HRe2 h58
                  go_wp2_with fail
                  refine HSK.mono ?_
                  clear HSK
                  rintro e w9 ⟨hb9, m4, rfl, hm4, htl4⟩
                  have HW9 : Hid (InI w gv gr 6 S ns9 its (.slice na8 ns9.length nc8) (.slice ia its.length ic) css w9) := HWb.out.more hb9
                  rw [← htl4] at HRe
                  have hmm4 : m < m4 := by
                    have h1 := spL_len (tl s (m3 + 1))
                    rw [← htl4, tl_length, tl_length] at h1
                    omega
                  clear HWb hb9 htl4 q58
                  have HVC := HIH.out k2 (by omega) (d + 1) w9 m4 hm4 (by rw [tl_length]; omega) (by omega)
                  rw [hdI] at HVC
                  have hl9 := (bareF_lens k2).1 (d + 1) (tl s m4)
                  cases hbr : bareF k2 (d + 1) (tl s m4) with
                  | error c =>
                    rw [hbr] at HVC
                    have HRe2 : Hid (R = .error c) := by rw [Hid, HRe.out, elT, hbr]
                    clear hbr HRe hl9
                    go_wp2_with fail
                    refine HVC.mono ?_
                    clear HVC
                    rintro e w10 ⟨f10, rfl, hcm⟩
                    have hc0 : (c != 0) = true := by rcases hcm with h | h | h <;> subst h <;> rfl
                    have HW10 : Hid (InI w gv gr 6 S ns9 its (.slice na8 ns9.length nc8) (.slice ia its.length ic) css w10) := HW9.out.step f10
                    unfold jZ jC
                    obtain ⟨w11, Hw11⟩ : ∃ w11, Hid (w11 = w10.alloc (.cells #[.int .i64 0, .int .i64 0, .string ⟨#[]⟩, .slice none 0 0, .slice none 0 0] 26)) := ⟨_, rfl⟩
                    have HW11 : Hid (InI w gv gr 6 S ns9 its (.slice na8 ns9.length nc8) (.slice ia its.length ic) css w11) := HW10.out.more (by rw [Hw11.out]; exact below_new _ _)
                    clear f10 HW9 HW10
                    go_upto_region 26 with fail
                    rw [← Hw11.out]
                    clear Hw11
                    have HEF : Hid (Frm noB w w11 ∧ Blk w11 gr jZ 26) := ⟨HW11.out.frm, HW11.out.rs⟩
                    obtain ⟨y0, y1, y2, y3, y4, z0, z1, z2, z3, z4⟩ := Blk.five HW11.out.rs
                    clear HW11
                    go_wp2
                    change bodyPost _ _ _ _ _ (putC w11 gr 0 [.int .i64 0, .int .i64 0, .string ⟨#[]⟩, .slice none 0 0, .slice none 0 0])
                    refine ret_cell2 rfl rfl rfl rfl rfl (load_js (putC_all HEF.out.2 rfl) rfl) ?_
                    rw [HRe2.out]
                    exact ⟨HEF.out.1.put _ _ 0 hgr, rfl, hcm⟩
                  | ok p =>
                    obtain ⟨x, r2⟩ := p
                    rw [hbr] at HVC
                    have hlr := hl9 x r2 hbr
                    have HRe2 : Hid (R = if hdN (spL r2) = some 125 then .ok (.mk 6 0 [] ns9 (its ++ [x]), (spL r2).tail)
                      else if hdN (spL r2) = some 44 then elF k2 6 125 d (spL r2).tail ns9 (its ++ [x])
                      else .error 181) := by rw [Hid, HRe.out, elT, hbr]
                    clear hbr HRe hl9
                    go_wp2_with fail
                    refine HVC.mono ?_
                    clear HVC
                    rintro e w10 ⟨f10, cs, S2, m5, rfl, hm5, htl5, hj10, hs10⟩
                    rw [← htl5, tl_length, tl_length] at hlr
                    have HW10 : Hid (InI w gv gr 6 S ns9 its (.slice na8 ns9.length nc8) (.slice ia its.length ic) css w10) := HW9.out.step f10
                    have HJ10 : Hid (JAt w10 S2 x cs) := hj10
                    have HS10 : Hid (∀ k, S2 k → w9.heap.size ≤ k ∧ k < w10.heap.size) := hs10
                    have HSv : Hid (∀ k, S2 k → (Value.slice na8 ns9.length nc8).ownBlock ≠ some k ∧ (Value.slice ia its.length ic).ownBlock ≠ some k ∧ k ≠ gv ∧ k ≠ gr) := fun k hk => by
                      have h1 := (hs10 k hk).1
                      refine ⟨fun e => by have := (HW9.out.nm.lt k e).2; omega, fun e => by have := (HW9.out.it.lt k e).2; omega, fun e => by have := HW9.out.bx.lt; omega, fun e => by have := HW9.out.rs.lt; omega⟩
                    obtain ⟨xk, xn, xt, xa, xl, xc, ya, yl, yc, hcs⟩ := JAt.cs HJ10.out
                    subst hcs
                    have hWl := HW9.out.frm.size
                    rw [← htl5] at HRe2
                    clear f10 hj10 hs10 HW9 htl5
                    obtain ⟨w11, Hw11⟩ : ∃ w11, Hid (w11 = w10.alloc (.cells #[.int .i64 xk, .int .i64 xn, .string xt, .slice xa xl xc, .slice ya yl yc] 26)) := ⟨_, rfl⟩
                    have hb11 : Below w10.heap.size w10 w11 := by rw [Hw11.out]; exact below_new _ _
                    have hone := HJ10.out.one
                    obtain ⟨gi, Hgi⟩ : ∃ gi, Hid (gi = w10.heap.size) := ⟨_, rfl⟩
                    have HBi : Hid (Blk w11 gi #[.int .i64 xk, .int .i64 xn, .string xt, .slice xa xl xc, .slice ya yl yc] 26) := by rw [Hid, Hw11.out, Hgi.out]; exact Blk.new _ _ _
                    have HW11 : Hid (InI w gv gr 6 S ns9 its (.slice na8 ns9.length nc8) (.slice ia its.length ic) css w11) := HW10.out.more hb11
                    have HJ11 : Hid (JAt w11 S2 x #[.int .i64 xk, .int .i64 xn, .string xt, .slice xa xl xc, .slice ya yl yc]) := JAt.frm (Frm.ofBelow hb11 (fun _ => False)) (fun _ _ h => h) _ _ HJ10.out
                    have HS11 : Hid (∀ k, S2 k → w.heap.size ≤ k ∧ k < w11.heap.size ∧ k ≠ gv ∧ k ≠ gr ∧ (Value.slice na8 ns9.length nc8).ownBlock ≠ some k ∧ (Value.slice ia its.length ic).ownBlock ≠ some k) := fun k hk => by
                      have h1 := HS10.out k hk
                      have h2 := HSv.out k hk
                      have h3 := hb11.size
                      exact ⟨by omega, by omega, h2.2.2.1, h2.2.2.2, h2.1, h2.2.1⟩
                    clear HW10 HJ10 HS10 HSv hb11
                    go_upto_region 26 with fail
                    rw [← Hw11.out, ← Hgi.out]
                    clear Hw11 Hgi
                    obtain ⟨i0, i1, i2, i3, i4, -⟩ := Blk.five HBi.out
                    have hitl : its.length + 1 ≤ 1048577 := by omega
                    have x4' : (w11.alloc (.cells #[.int .i64 xk, .int .i64 xn, .string xt, .slice xa xl xc, .slice ya yl yc] 26)).cell? ⟨gv, 4, none⟩ = some (.slice ia its.length ic) := (HW11.out.bx.alloc _).cell 4 rfl
                    have x4 : w11.cell? ⟨gv, 4, none⟩ = some (.slice ia its.length ic) := HW11.out.bx.cell 4 rfl
                    go_wp2_with (at_builtin; go_must (refine append_js w11 rfl (.tmp 104) (.tmp 106) rfl w.heap.size _ its.length (flC css) rfl #[.int .i64 xk, .int .i64 xn, .string xt, .slice xa xl xc, .slice ya yl yc] rfl hone _ rfl rfl HW11.out.it.row hitl HW11.out.frm.size ?_))
                    intro v12 w12 ho12 hg12
                    have hsh : ∃ ia2 ic2, v12 = .slice ia2 (its.length + 1) ic2 := by
                      rcases ho12.2 with ⟨rfl, h0⟩ | ⟨g, cap, cur, rfl, _⟩
                      · omega
                      · exact ⟨_, _, rfl⟩
                    obtain ⟨ia2, ic2, rfl⟩ := hsh
                    have hW13 := HW11.out.pushI (x := x) HJ11.out rfl HS11.out ho12 hg12
                    have hb12 : Blk w12 gv (jC 6 0 ⟨#[]⟩ (.slice na8 ns9.length nc8) (.slice ia its.length ic)) 26 := ((Frm.ofGrewT hg12).block gv HW11.out.bx.lt (fun e => (HW11.out.nI _ e).2.1 rfl)).trans HW11.out.bx
                    obtain ⟨u0, u1, u2, u3, u4, p0, p1, p2, p3, p4⟩ := Blk.five hb12
                    obtain ⟨w13, Hw13⟩ : ∃ w13, Hid (w13 = w12.setCell ⟨gv, 4, none⟩ (.slice ia2 (its.length + 1) ic2)) := ⟨_, rfl⟩
                    rw [← Hw13.out] at hW13
                    obtain ⟨its2, Hits⟩ : ∃ its2, Hid (its2 = its ++ [x]) := ⟨_, rfl⟩
                    have hi2 : its2.length = its.length + 1 := by rw [Hits.out]; simp
                    rw [← Hits.out, ← hi2] at hW13
                    rw [← Hits.out] at HRe2
                    rw [← hi2] at Hw13
                    have HW13 : Hid (InI w gv gr 6 (fun k => S k ∨ S2 k) ns9 its2 (.slice na8 ns9.length nc8) (.slice ia2 its2.length ic2) (css ++ [#[.int .i64 xk, .int .i64 xn, .string xt, .slice xa xl xc, .slice ya yl yc]]) w13) := hW13
                    have HSK := refSpace_calls s m5 w13 hm5 hs
                    clear hW13 hb12 ho12 hg12 HW11 HJ11 HS11 HBi hone i0 i1 i2 i3 i4 x4 x4' Hits
                    go_upto_region 29 with fail
                    rw [← hi2, ← Hw13.out]
                    have hi3 : its2.length ≤ its.length + 1 ∧ ns9.length ≤ its2.length := ⟨by omega, by omega⟩
                    clear Hw13 u0 u1 u2 u3 u4 p0 p1 p2 p3 p4 hi2 hns9
                    go_wp2_with fail
                    refine HSK.mono ?_
                    clear HSK
                    rintro e w14 ⟨hb14, m6, rfl, hm6, htl6⟩
                    have HW14 : Hid (InI w gv gr 6 (fun k => S k ∨ S2 k) ns9 its2 (.slice na8 ns9.length nc8) (.slice ia2 its2.length ic2) (css ++ [#[.int .i64 xk, .int .i64 xn, .string xt, .slice xa xl xc, .slice ya yl yc]]) w14) := HW13.out.more hb14
                    have h56 : s.size - m6 ≤ s.size - m5 := by
                      have h1 := spL_len (tl s m5)
                      rw [← htl6, tl_length, tl_length] at h1
                      exact h1
                    rw [← htl6] at HRe2
                    clear HW13 hb14 htl6
                    by_cases hl6 : m6 < s.size
                    · by_cases hc : s[m6].toNat = 125
                      · have qc : ((s[m6].toNat : Int) == 125) = true := by rw [hc]; rfl
                        have HN : Hid (R = .ok (.mk 6 0 [] ns9 its2, tl s (m6 + 1))) := by rw [Hid, HRe2.out, if_pos (by rw [tl_hd hl6, hc]), tl_tail hl6]
                        clear HRe2 hc
                        obtain ⟨SW, HSW⟩ : ∃ SW : Nat → Prop, Hid (JAt w14 SW (.mk 6 0 [] ns9 its2) (jC 6 0 ⟨#[]⟩ (.slice na8 ns9.length nc8) (.slice ia2 its2.length ic2)) ∧ (∀ k, SW k → w.heap.size ≤ k ∧ k < w14.heap.size) ∧ ¬ SW gr) := HW14.out.whole
                        have HEF : Hid (Frm noB w w14 ∧ Blk w14 gr jZ 26) := ⟨HW14.out.frm, HW14.out.rs⟩
                        obtain ⟨x0, x1, x2, x3, x4, -⟩ := Blk.five HW14.out.bx
                        obtain ⟨y0, y1, y2, y3, y4, z0, z1, z2, z3, z4⟩ := Blk.five HW14.out.rs
                        clear HW14
                        go_wp2
                        change bodyPost _ _ _ _ _ (putC w14 gr 0 [.int .i64 6, .int .i64 0, .string ⟨#[]⟩, .slice na8 ns9.length nc8, .slice ia2 its2.length ic2])
                        refine ret_cell2 rfl rfl rfl rfl rfl (load_js (putC_all HEF.out.2 rfl) rfl) ?_
                        rw [HN.out]
                        exact ⟨HEF.out.1.put _ _ 0 hgr, _, SW, m6 + 1, by go_num, by omega, rfl, JAt.frm (frm_put w14 gr _) (fun k hk e => HSW.out.2.2 (by rw [← e]; exact hk)) _ _ HSW.out.1, fun k hk => by rw [putC_size]; exact HSW.out.2.1 k hk⟩
                      · have qc : ((s[m6].toNat : Int) == 125) = false := by simp; omega
                        have HRe3 : Hid (R = if hdN (tl s m6) = some 44 then elF k2 6 125 d (tl s m6).tail ns9 its2 else .error 181) := by
                          rw [Hid, HRe2.out, if_neg (by rw [tl_hd hl6]; intro e; exact hc (Option.some.inj e))]
                        clear HRe2
                        by_cases h44 : s[m6].toNat = 44
                        · have q44 : ((s[m6].toNat : Int) != 44) = false := by rw [h44]; rfl
                          have HRe4 : Hid (R = elF k2 6 125 d (tl s (m6 + 1)) ns9 its2) := by
                            rw [Hid, HRe3.out, if_pos (by rw [tl_hd hl6, h44]), tl_tail hl6]
                          have HSK := refSpace_calls s (m6 + 1) w14 (by omega) hs
                          rw [show ((m6 + 1 : Nat) : Int) = (m6 : Int) + 1 by omega] at HSK
                          clear HRe3 hc h44
                          go_wp2_with fail
                          refine HSK.mono ?_
                          clear HSK
                          rintro e w16 ⟨hb16, m7, rfl, hm7, htl7⟩
                          have h67 : m6 < m7 := by
                            have h1 := spL_len (tl s (m6 + 1))
                            rw [← htl7, tl_length, tl_length] at h1
                            omega
                          have HN : Hid (InS w gv gr s 6 125 K0 d R m7 w16) := by
                            refine ⟨k2, _, ns9, its2, _, _, _, HW14.out.more hb16, ?_, by rw [htl7, spL_spL], ?_, by omega, by omega, by omega⟩
                            · rw [HRe4.out, htl7, elF_sp]
                            · rw [tl_length]; omega
                          clear HW14 hb16 htl7 HRe4 q44 qc
                          go_wp2
                          go_roundw
                          case rel => exact ⟨m7, by go_num, hm7, HN⟩
                          case measure => simp [intOf]; omega
                        · have q44 : ((s[m6].toNat : Int) != 44) = true := by simp; omega
                          have HRe4 : Hid (R = .error 181) := by rw [Hid, HRe3.out, if_neg (by rw [tl_hd hl6]; intro e; exact h44 (Option.some.inj e))]
                          clear HRe3 hc h44
                          have HEF : Hid (Frm noB w w14 ∧ Blk w14 gr jZ 26) := ⟨HW14.out.frm, HW14.out.rs⟩
                          obtain ⟨y0, y1, y2, y3, y4, z0, z1, z2, z3, z4⟩ := Blk.five HW14.out.rs
                          clear HW14
                          go_wp2
                          change bodyPost _ _ _ _ _ (putC w14 gr 0 [.int .i64 0, .int .i64 0, .string ⟨#[]⟩, .slice none 0 0, .slice none 0 0])
                          refine ret_cell2 rfl rfl rfl rfl rfl (load_js (putC_all HEF.out.2 rfl) rfl) ?_
                          rw [HRe4.out]
                          exact ⟨HEF.out.1.put _ _ 0 hgr, rfl, .inl rfl⟩
                    · have HRe4 : Hid (R = .error 181) := by
                        have h9 : hdN (tl s m6) = none := tl_hd0 hl6
                        rw [Hid, HRe2.out, if_neg (by rw [h9]; intro e; cases e), if_neg (by rw [h9]; intro e; cases e)]
                      clear HRe2
                      have HEF : Hid (Frm noB w w14 ∧ Blk w14 gr jZ 26) := ⟨HW14.out.frm, HW14.out.rs⟩
                      obtain ⟨y0, y1, y2, y3, y4, z0, z1, z2, z3, z4⟩ := Blk.five HW14.out.rs
                      clear HW14
                      go_wp2
                      change bodyPost _ _ _ _ _ (putC w14 gr 0 [.int .i64 0, .int .i64 0, .string ⟨#[]⟩, .slice none 0 0, .slice none 0 0])
                      refine ret_cell2 rfl rfl rfl rfl rfl (load_js (putC_all HEF.out.2 rfl) rfl) ?_
                      rw [HRe4.out]
                      exact ⟨HEF.out.1.put _ _ 0 hgr, rfl, .inl rfl⟩
                · have q58 : ((s[m3].toNat : Int) != 58) = true := by simp; omega
                  have HRe : Hid (R = .error 181) := by rw [Hid, HRe2.out, if_neg (by rw [tl_hd hl3]; intro e; exact h58 (Option.some.inj e))]
                  clear HRe2 h58
                  have HEF : Hid (Frm noB w wb ∧ Blk wb gr jZ 26) := ⟨HWb.out.frm, HWb.out.rs⟩
                  obtain ⟨y0, y1, y2, y3, y4, z0, z1, z2, z3, z4⟩ := Blk.five HWb.out.rs
                  clear HWb
                  go_wp2
                  change bodyPost _ _ _ _ _ (putC wb gr 0 [.int .i64 0, .int .i64 0, .string ⟨#[]⟩, .slice none 0 0, .slice none 0 0])
                  refine ret_cell2 rfl rfl rfl rfl rfl (load_js (putC_all HEF.out.2 rfl) rfl) ?_
                  rw [HRe.out]
                  exact ⟨HEF.out.1.put _ _ 0 hgr, rfl, .inl rfl⟩
              · have HRe : Hid (R = .error 181) := by rw [Hid, HRe2.out, if_neg (by rw [tl_hd0 hl3]; intro e; cases e)]
                clear HRe2
                have HEF : Hid (Frm noB w wb ∧ Blk wb gr jZ 26) := ⟨HWb.out.frm, HWb.out.rs⟩
                obtain ⟨y0, y1, y2, y3, y4, z0, z1, z2, z3, z4⟩ := Blk.five HWb.out.rs
                clear HWb
                go_wp2
                change bodyPost _ _ _ _ _ (putC wb gr 0 [.int .i64 0, .int .i64 0, .string ⟨#[]⟩, .slice none 0 0, .slice none 0 0])
                refine ret_cell2 rfl rfl rfl rfl rfl (load_js (putC_all HEF.out.2 rfl) rfl) ?_
                rw [HRe.out]
                exact ⟨HEF.out.1.put _ _ 0 hgr, rfl, .inl rfl⟩
end Go.Proofs.YtelhgjepjieocaaDoor
