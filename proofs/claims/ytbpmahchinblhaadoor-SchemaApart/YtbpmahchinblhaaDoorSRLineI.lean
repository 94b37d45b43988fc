/- Layer 6 (schema): the document's line of an index. -/
import Derived.Test.YtbpmahchinblhaaDoorSRLine0
namespace Go.Proofs.YtbpmahchinblhaaDoor
open Go.RowKit
set_option linter.unusedVariables false
attribute [local go_sem] Oper.semAt_some

theorem idxP_good {t : TV} {x : Ix} {ns : List ByteArray} (h : idxP t.tb x ns = 0) : t.xs.length ≠ 8 ∧ ns.length ≤ 4 ∧ x.ov.contains (-1) = false := by
  rw [idxP_tv] at h
  split at h
  · cases h
  · split at h
    · cases h
    · next h8 =>
      split at h
      · cases h
      · next hc => exact ⟨fun e => h8 (.inl e), by omega, by simpa using hc⟩
theorem rIndex_idxP (ln : Int) (ws : List ByteArray) (st : St) (t : Tb) (h3 : ¬ ws.length < 3) (hz : (flagsW (ws.drop 3)).2.length = 0) (hn : ¬ (nameB (ws.getD 1 ⟨#[]⟩) = false ∨ (wsOf (ws.getD 2 ⟨#[]⟩) 44).all nameB = false)) (ht : st.1.getLast? = some t) (X : Ix) (hX : X = ⟨ws.getD 1 ⟨#[]⟩, (wsOf (ws.getD 2 ⟨#[]⟩) 44).map (placeF t.fs), (flagsW (ws.drop 3)).1.1, (flagsW (ws.drop 3)).1.2.1, (flagsW (ws.drop 3)).1.2.2⟩) :
    rIndex ln ws st = if idxP t X (wsOf (ws.getD 2 ⟨#[]⟩) 44) = 0 then .ok (st.1.dropLast ++ [{ t with xs := t.xs ++ [X] }], st.2) else .error (ln, idxP t X (wsOf (ws.getD 2 ⟨#[]⟩) 44)) := by
  subst hX
  unfold rIndex idxP
  rw [if_neg h3, if_neg (by omega), if_neg hn, ht]
  dsimp only
  split
  · rfl
  · split
    · rfl
    · split
      · rfl
      · split
        · rfl
        · rfl

set_option maxRecDepth 100000 in
set_option maxHeartbeats 4000000 in
theorem rline_index (B g cap : Nat) (v : Value) (ts : List TV) (ln bg : Int) (ws : List ByteArray) (w : World) (h0 : 0 < ws.length) (hcap : ws.length ≤ cap) (hl : ws.length ≤ 100000) (hc : CellsAt w (some ⟨g, 0, none⟩) (ws.map Value.string)) (hs : ∀ x ∈ ws, x.size ≤ 8192)
    (hw : ws[0] = indexW) (hf : formP ws = 0) (ht : Tabs w B v ts) (hB : B ≤ w.heap.size) :
    Calls Tryd.prog 11 #[v, .slice (some ⟨g, 0, none⟩) ws.length cap] w fun e w' => LineR B w (rLine ln ws (tbs ts, bg)) e w' := by
  have hgd : ws.getD 0 ⟨#[]⟩ = indexW := by rw [word_at h0]; exact hw
  have hng : ¬ ws.getD 0 ⟨#[]⟩ = tableW := fun h => by
    rw [hgd] at h
    have := congrArg (fun x => x.data.toList) h
    simp [indexW, tableW] at this
  have hnf : ¬ ws.getD 0 ⟨#[]⟩ = fieldW := fun h => by
    rw [hgd] at h
    have := congrArg (fun x => x.data.toList) h
    simp [indexW, fieldW] at this
  unfold formP at hf
  rw [if_neg hng, if_neg hnf, if_pos hgd] at hf
  have h3 : ¬ ws.length < 3 := fun h => by rw [if_pos h] at hf; cases hf
  rw [if_neg h3] at hf
  have hz : (flagsW (ws.drop 3)).2.length = 0 := by
    by_cases h : (flagsW (ws.drop 3)).2.length > 0
    · rw [if_pos h] at hf; cases hf
    · omega
  rw [if_neg (by omega)] at hf
  have hn : ¬ (nameB (ws.getD 1 ⟨#[]⟩) = false ∨ (wsOf (ws.getD 2 ⟨#[]⟩) 44).all nameB = false) := fun h => by rw [if_pos h] at hf; cases hf
  have HNM : Hid (nameB (ws.getD 1 ⟨#[]⟩) = true) := by
    cases h : nameB (ws.getD 1 ⟨#[]⟩) with
    | true => rfl
    | false => exact absurd (.inl h) hn
  have HO1 : Hid (∀ st : St, rLine ln ws st = rIndex ln ws st) := fun st => by unfold rLine; rw [if_neg hng, if_neg hnf, if_pos hgd]
  have c0 := words_cell hc 0 h0
  rw [hw] at c0
  have u0 : indexW.toList = [105, 110, 100, 101, 120] := by rw [ByteArray.toList_eq]; rfl
  have HT : Hid (Tabs w B v ts) := ht
  have hm := ht.most
  obtain ⟨ao, tc, rfl, hg⟩ := ht.form
  rcases nil_or_snoc ts with rfl | ⟨us, t, rfl⟩
  · have HO : Hid (rLine ln ws (tbs [], bg) = .error (ln, 63)) := by
      rw [Hid, HO1.out]
      unfold rIndex
      rw [if_neg h3, if_neg (by omega), if_neg hn]
      rfl
    clear hs hw hf hgd hng hnf hc hn hz hg ht
    go_enter Tryd.func11, Tryd.ntmps11
    go_wp2
    go_ret2
    rw [HO.out]
    exact ⟨Fr.refl _ _, _, rfl⟩
  obtain ⟨gt, rfl, hcapt, t0, t1, t2, cs, hgb⟩ := HT.out.lastAt
  obtain ⟨X, hX⟩ : ∃ X : Ix, X = ⟨ws.getD 1 ⟨#[]⟩, (wsOf (ws.getD 2 ⟨#[]⟩) 44).map (placeF t.fs), (flagsW (ws.drop 3)).1.1, (flagsW (ws.drop 3)).1.2.1, (flagsW (ws.drop 3)).1.2.2⟩ := ⟨_, rfl⟩
  have hok := HT.out.ok t (by simp)
  have HIX : Hid (Calls Tryd.prog 24 #[.agg #[.string t.n, t.fv, t.xv], .slice (some ⟨g, 0, none⟩) ws.length cap] w fun e w' => Below w.heap.size w w' ∧ ∃ va vn vc, e = .returned (.tuple #[.agg #[.string X.n, .slice va vn vc, .bool X.u, .bool X.l, .bool X.s], .int .i64 (idxP t.tb X (wsOf (ws.getD 2 ⟨#[]⟩) 44))]) ∧ (idxP t.tb X (wsOf (ws.getD 2 ⟨#[]⟩) 44) = 0 → w'.ownsRow w.heap.size 3 1 (.slice va vn vc) X.ov.length (ics X.ov))) := rindex_calls t g cap ws w (by omega) hcap hl hc hs hok (row_cells (HT.out.tab t (by simp)).fs) (row_cells (HT.out.tab t (by simp)).xs) hz X hX
  have HO2 : Hid (rLine ln ws (tbs (us ++ [t]), bg) = if idxP t.tb X (wsOf (ws.getD 2 ⟨#[]⟩) 44) = 0 then .ok (tbs us ++ [{ t.tb with xs := t.tb.xs ++ [X] }], bg) else .error (ln, idxP t.tb X (wsOf (ws.getD 2 ⟨#[]⟩) 44))) := by
    rw [Hid, HO1.out, rIndex_idxP ln ws (tbs (us ++ [t]), bg) t.tb h3 hz hn (by simp [tbs]) X hX]
    simp [tbs]
  obtain ⟨ns, hns⟩ : ∃ ns, ns = wsOf (ws.getD 2 ⟨#[]⟩) 44 := ⟨_, rfl⟩
  have hn0 : 0 < ns.length := by rw [hns, wsOf_length]; omega
  rw [← hns] at HIX HO2
  have HXn : Hid (X.n.size ≤ 32) := by rw [Hid, hX]; exact name_size HNM.out
  have HXo : Hid (X.ov = ns.map (placeF t.fs)) := by rw [Hid, hX, hns]
  have HXG : Hid (idxP t.tb X ns = 0 → XOk t ⟨X, none, 0⟩ ∧ t.xs.length < 8) := fun h => by
    have hg := idxP_good h
    have := hok.xmost
    refine ⟨⟨HXn.out, by show X.ov.length ≤ 4; rw [HXo.out, List.length_map]; exact hg.2.1, by show 0 < X.ov.length; rw [HXo.out, List.length_map]; exact hn0, fun p hp => ?_⟩, by omega⟩
    have hp' : p ∈ X.ov := hp
    have hne : p ≠ -1 := fun e => by
      subst e
      have h2 := hg.2.2
      rw [List.contains_iff_mem.2 hp'] at h2
      cases h2
    rw [HXo.out] at hp'
    obtain ⟨n, -, rfl⟩ := List.mem_map.1 hp'
    rcases place_range t.fs n with h | h
    · exact absurd h hne
    · exact h
  have hlen : (us ++ [t]).length = us.length + 1 := by simp
  have hm1 : us.length < 16 := by rw [hlen] at hm; omega
  have hgt : gt < w.heap.size := lt_blk hgb
  have hxm := hok.xmost
  rw [hlen]
  clear hs hw hf hgd hng hnf hc hn hz hg ht hgb hX hns HNM h3 HO1 hlen hm
  obtain ⟨c, hcx⟩ : ∃ c, c = idxP t.tb X ns := ⟨_, rfl⟩
  rw [← hcx] at HIX HO2 HXG
  clear hcx
  go_enter Tryd.func11, Tryd.ntmps11
  go_wp2_with fail
  refine HIX.out.mono ?_
  clear HIX
  rintro e w1 ⟨hb1, va, vn, vc, rfl, hv1⟩
  have HB1 : Hid (Below w.heap.size w w1) := hb1
  have HV1 : Hid (c = 0 → w1.ownsRow w.heap.size 3 1 (.slice va vn vc) X.ov.length (ics X.ov)) := hv1
  clear hv1 hb1 t0 t1
  by_cases h7 : c = 0
  · subst h7
    have hov := HV1.out rfl
    obtain ⟨hXO, hx8⟩ := HXG.out rfl
    have HXO : Hid (XOk t ⟨X, none, 0⟩) := hXO
    have HO : Hid (rLine ln ws (tbs (us ++ [t]), bg) = .ok (tbs us ++ [{ t.tb with xs := t.tb.xs ++ [X] }], bg)) := by rw [Hid, HO2.out, if_pos rfl]
    obtain ⟨va', vc', he, -⟩ := row_forms hov
    simp only [Value.slice.injEq] at he
    obtain ⟨-, rfl, -⟩ := he
    have HOV1 : Hid (w1.ownsRow w.heap.size 3 1 (.slice va X.ov.length vc) X.ov.length (ics X.ov)) := hov
    clear hov hXO HV1 HXG HO2
    go_upto_region 28 with fail
    obtain ⟨w2, hw2⟩ : ∃ w2, w2 = w1.alloc (.cells #[.string X.n, .slice va X.ov.length vc, .bool X.u, .bool X.l, .bool X.s] 38) := ⟨_, rfl⟩
    rw [← hw2]
    have hb2 : Below w1.heap.size w1 w2 := by rw [hw2]; exact (Below.refl _ _).alloc (Nat.le_refl _) _
    obtain ⟨xb, hxb⟩ : ∃ xb, xb = w1.heap.size := ⟨_, rfl⟩
    have HBX : Hid (XBox w2 xb X.n (.slice va X.ov.length vc) X.u X.l X.s) := by rw [hxb, hw2]; exact new_blk _ _
    rw [← hxb]
    have hbw : Below w.heap.size w w2 := HB1.out.trans (hb2.mono HB1.out.size)
    have HTb : Hid (Tabs w2 B (.slice (some ⟨gt, 0, none⟩) (us ++ [t]).length tc) (us ++ [t])) := HT.out.below hbw
    have HOv : Hid (w2.ownsRow w.heap.size 3 1 (.slice va X.ov.length vc) X.ov.length (ics X.ov)) := row_below HOV1.out hb2
    have HFr : Hid (Fr B w w2) := Fr.ofBelow hbw hB
    have hB2 : B ≤ w2.heap.size := Nat.le_trans hB hbw.size
    have t2' : w2.cell? ⟨gt, us.length * 3 + 2, none⟩ = some (.slice t.xa t.xs.length t.xc) := by rw [hbw.cell (by exact hgt)]; exact t2
    have x0 : w2.cell? ⟨xb, 0, none⟩ = some (.string X.n) := by rw [cell_blk HBX.out]; rfl
    have x1 : w2.cell? ⟨xb, 1, none⟩ = some (.slice va X.ov.length vc) := by rw [cell_blk HBX.out]; rfl
    have x2 : w2.cell? ⟨xb, 2, none⟩ = some (.bool X.u) := by rw [cell_blk HBX.out]; rfl
    have x3 : w2.cell? ⟨xb, 3, none⟩ = some (.bool X.l) := by rw [cell_blk HBX.out]; rfl
    have x4 : w2.cell? ⟨xb, 4, none⟩ = some (.bool X.s) := by rw [cell_blk HBX.out]; rfl
    have hgt2 : gt < w2.heap.size := Nat.lt_of_lt_of_le hgt hbw.size
    have hx2 : xb < w2.heap.size := lt_blk HBX.out
    obtain ⟨i0, hi, hz0, hz1, hz2⟩ := info_of info_index
    have hi1 : (us.length : Int) < (us.length : Int) + 1 := by omega
    clear hw2 hxb t2 hb2 hbw
    go_region_law
      (first
        | (refine step_append_lies _ rfl (.tmp 119) (.tmp 121) 33 rfl B 38 i0 _ 5 48 Tryd.underlying33 hi hz0 hz1 hz2 rfl (by decide) (.slice t.xa t.xs.length t.xc) t.xs.length (xcs t.xs) rfl ((HTb.out.tab t (by simp)).xs.alloc _) _ 1 1 [.string X.n, .slice va X.ov.length vc, .bool X.u, .bool X.l, .bool X.s] rfl rfl (cells_new _ _ _) (by simp [Value.oneCell']) (by decide) (by unfold maxLen; omega) (by omega) (by simp; omega) _ rfl ?_
           intro g4 cap4 w4 ho4 hg4 hat4 hlt4
           have HG4 : Hid (Grew w2 w4 (.slice t.xa t.xs.length t.xc) (.slice (some ⟨g4, 0, none⟩) (t.xs.length + 1) cap4)) := grew_lies (o := .cells #[.string X.n, .slice va X.ov.length vc, .bool X.u, .bool X.l, .bool X.s] 38) ⟨hg4.os, hg4.tape, hg4.output, hg4.size, hg4.block⟩ hat4 rfl
           have HO4 : Hid (w4.ownsRow B 38 5 (.slice (some ⟨g4, 0, none⟩) (t.xs.length + 1) cap4) (t.xs.length + 1) (xcs t.xs ++ [.string X.n, .slice va X.ov.length vc, .bool X.u, .bool X.l, .bool X.s])) := ho4
           have hne2 : some gt ≠ t.xv.ownBlock := fun e => rows_ne (HTb.out.tab t (by simp)).xs HTb.out.row (by decide) gt rfl e.symm
           have ht4 : w4.cell? ⟨gt, us.length * 3 + 2, none⟩ = some (.slice t.xa t.xs.length t.xc) := HG4.out.cell t2' hne2
           have hz4 : w4.frozen? ⟨gt, us.length * 3 + 2, none⟩ = false := World.ownsRow.frozenAt (row_grew HTb.out.row HG4.out (rows_ne HTb.out.row (HTb.out.tab t (by simp)).xs (by decide))) _
           clear ho4 hg4 hat4 hlt4 hne2))
    all_goals
      have hfr := (HTb.out.tab t (by simp)).xs
      have hTn := HTb.out.addIndex (x := ⟨X, va, vc⟩) (N := w.heap.size) HO4.out HG4.out (row_mono HOv.out hB) (fun k hk => (World.ownsRow.lt HOv.out k hk).1) (fun t' ht' y hy k hk => (World.ownsRow.lt ((HT.out.tab t' ht').ov y hy) k hk).2)
        ⟨HXO.out.size, HXO.out.most, HXO.out.one, HXO.out.place⟩ hx8
      have hrt := row_grew HTb.out.row HG4.out (rows_ne HTb.out.row hfr (by decide))
      obtain ⟨cs4, hcs4⟩ := row_typed hrt gt rfl
      have HFn : Hid (Fr B w (w4.setCell ⟨gt, us.length * 3 + 2, none⟩ (.slice (some ⟨g4, 0, none⟩) (t.xs.length + 1) cap4))) :=
        HFr.out.trans ((Fr.grew hfr (Nat.le_refl _) hB2 HG4.out (by decide)).trans (Fr.set hcs4 (World.ownsRow.lt hrt gt rfl).1 (by decide) _))
      have HTn : Hid (Tabs _ B _ _) := hTn
      clear hTn hrt hcs4 hfr
      go_wp2
      go_ret2
      rw [HO.out]
      exact ⟨HFn.out, _, us ++ [⟨t.n, t.fs, t.fa, t.fc, t.xs ++ [⟨X, va, vc⟩], some ⟨g4, 0, none⟩, cap4⟩], rfl, by rw [tbs_snoc]; simp [TV.tb], by have h := HTn.out; rw [show (us ++ [t]).length = us.length + 1 by simp] at h; exact h⟩
  · have HO : Hid (rLine ln ws (tbs (us ++ [t]), bg) = .error (ln, c)) := by rw [Hid, HO2.out, if_neg h7]
    have q7 : (c == 0) = false := by simpa using h7
    clear h7 HV1 HXG HO2
    go_wp2
    go_ret2
    rw [HO.out]
    exact ⟨Fr.ofBelow (HB1.out.alloc HB1.out.size _) hB, _, rfl⟩
end Go.Proofs.YtbpmahchinblhaaDoor
