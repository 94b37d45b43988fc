/- Layer 6 (schema): the document's line of a field. -/
import Derived.Test.YtbpmahchinblhaaDoorSRLine0
namespace Go.Proofs.YtbpmahchinblhaaDoor
open Go.RowKit
set_option linter.unusedVariables false
attribute [local go_sem] Oper.semAt_some

set_option maxRecDepth 100000 in
set_option maxHeartbeats 4000000 in
theorem rline_field (B g cap : Nat) (v : Value) (ts : List TV) (ln bg : Int) (ws : List ByteArray) (w : World) (h0 : 0 < ws.length) (hcap : ws.length ≤ cap) (hc : CellsAt w (some ⟨g, 0, none⟩) (ws.map Value.string)) (hs : ∀ x ∈ ws, x.size ≤ 8192)
    (hw : ws[0] = fieldW) (hf : formP ws = 0) (ht : Tabs w B v ts) (hB : B ≤ w.heap.size) (hgt' : ∃ cs, w.heap[g]? = some (.cells cs 9)) :
    Calls Tryd.prog 11 #[v, .slice (some ⟨g, 0, none⟩) ws.length cap] w fun e w' => LineR B w (rLine ln ws (tbs ts, bg)) e w' := by
  have hgd : ws.getD 0 ⟨#[]⟩ = fieldW := by rw [word_at h0]; exact hw
  have hng : ¬ ws.getD 0 ⟨#[]⟩ = tableW := fun h => by
    rw [hgd] at h
    have := congrArg (fun x => x.data.toList) h
    simp [fieldW, tableW] at this
  have hl3 : ws.length = 3 := by
    unfold formP at hf
    rw [if_neg hng, if_pos hgd] at hf
    by_cases h : ws.length = 3
    · exact h
    · rw [if_pos h] at hf; cases hf
  have hkb : ¬ kindB ws[2] = 0 := by
    unfold formP at hf
    rw [if_neg hng, if_pos hgd, if_neg (by omega), word_at (by omega : 2 < ws.length)] at hf
    intro h
    rw [if_pos h] at hf; cases hf
  have hnb : nameB ws[1] = true := by
    unfold formP at hf
    rw [if_neg hng, if_pos hgd, if_neg (by omega), word_at (by omega : 2 < ws.length), if_neg hkb, word_at (by omega : 1 < ws.length)] at hf
    cases h : nameB ws[1] with
    | true => rfl
    | false => rw [if_pos h] at hf; cases hf
  have HO1 : Hid (∀ st : St, rLine ln ws st = match st.1.getLast? with
      | none => .error (ln, 63)
      | some t => if t.xs.length > 0 then .error (ln, 63) else if placeF t.fs ws[1] ≥ 0 then .error (ln, 64) else if t.fs.length = 16 then .error (ln, 65) else .ok (st.1.dropLast ++ [{ t with fs := t.fs ++ [⟨ws[1], kindB ws[2]⟩] }], st.2)) := by
    intro st
    unfold rLine rField
    rw [if_neg hng, if_pos hgd, if_neg (by omega), word_at (by omega : 2 < ws.length), if_neg hkb, word_at (by omega : 1 < ws.length), if_neg (by rw [hnb]; simp)]
    rfl
  have c0 := words_cell hc 0 h0
  have c1 := words_cell hc 1 (by omega)
  have c2 := words_cell hc 2 (by omega)
  rw [hw] at c0
  have u0 : fieldW.toList = [102, 105, 101, 108, 100] := by rw [ByteArray.toList_eq]; rfl
  obtain ⟨nm, hnm⟩ : ∃ nm, nm = ws[1] := ⟨_, rfl⟩
  obtain ⟨kw, hkw⟩ : ∃ nm, nm = ws[2] := ⟨_, rfl⟩
  rw [← hnm] at c1 HO1 hnb
  rw [← hkw] at c2 HO1 hkb
  have HNB : Hid (nameB nm = true ∧ ¬ kindB kw = 0) := ⟨hnb, hkb⟩
  have HT : Hid (Tabs w B v ts) := ht
  have hgw : g < w.heap.size := World.block_lt_of_cell? w _ c1
  have hm := ht.most
  obtain ⟨ao, tc, rfl, hg⟩ := ht.form
  rw [hl3] at hcap ⊢
  obtain ⟨csg, hcsg⟩ := hgt'
  have HGT : Hid (w.heap[g]? = some (.cells csg 9)) := hcsg
  clear hs hw hf hgd hng hc h0 hnb hkb hl3 hnm hkw ht hcsg
  rcases nil_or_snoc ts with rfl | ⟨us, t, rfl⟩
  · have HO : Hid (rLine ln ws (tbs [], bg) = .error (ln, 63)) := by rw [Hid, HO1.out]; rfl
    clear hg
    go_enter Tryd.func11, Tryd.ntmps11
    go_wp2
    go_ret2
    rw [HO.out]
    exact ⟨Fr.refl _ _, _, rfl⟩
  obtain ⟨gt, rfl, hcapt, t0, t1, t2, cs, hgb⟩ := HT.out.lastAt
  have HO2 : Hid (rLine ln ws (tbs (us ++ [t]), bg) = if t.xs.length > 0 then .error (ln, 63) else if placeF t.fs nm ≥ 0 then .error (ln, 64) else if t.fs.length = 16 then .error (ln, 65) else .ok (tbs us ++ [{ t.tb with fs := t.fs ++ [⟨nm, kindB kw⟩] }], bg)) := by
    rw [Hid, HO1.out, tbs_snoc]
    simp [TV.tb]
  have hlen : (us ++ [t]).length = us.length + 1 := by simp
  have hm1 : us.length < 16 := by rw [hlen] at hm; omega
  have hok := HT.out.ok t (by simp)
  have hfm := hok.fmost
  have hgt : gt < w.heap.size := lt_blk hgb
  have HHL : Hid (Tabs w B (.slice (some ⟨gt, 0, none⟩) (us ++ [t]).length tc) (us ++ [t])) := HT.out
  rw [hlen]
  clear hgb hg hok hlen HO1 hm
  have hi1 : (us.length : Int) < (us.length : Int) + 1 := by omega
  obtain ⟨xl, hxl⟩ : ∃ xl, xl = t.xs.length := ⟨_, rfl⟩
  rw [← hxl] at t2 HO2
  have HXL : Hid (xl = t.xs.length) := hxl
  clear hxl
  by_cases h5 : xl > 0
  · have HO : Hid (rLine ln ws (tbs (us ++ [t]), bg) = .error (ln, 63)) := by rw [Hid, HO2.out, if_pos h5]
    obtain ⟨xm, rfl⟩ : ∃ xm, xl = xm + 1 := ⟨xl - 1, by omega⟩
    clear h5
    go_enter Tryd.func11, Tryd.ntmps11
    go_wp2
    go_ret2
    rw [HO.out]
    exact ⟨Fr.refl _ _, _, rfl⟩
  have HO3 : Hid (rLine ln ws (tbs (us ++ [t]), bg) = if placeF t.fs nm ≥ 0 then .error (ln, 64) else if t.fs.length = 16 then .error (ln, 65) else .ok (tbs us ++ [{ t.tb with fs := t.fs ++ [⟨nm, kindB kw⟩] }], bg)) := by rw [Hid, HO2.out, if_neg h5]
  obtain rfl : xl = 0 := by omega
  clear h5 HO2
  have HFC : Hid (∀ W, Below w.heap.size w W → Calls Tryd.prog 23 #[.agg #[.string t.n, .slice t.fa t.fs.length t.fc, .slice t.xa 0 t.xc], .string nm] W fun e w' => e = .returned (.int .i64 (placeF t.fs nm)) ∧ Below W.heap.size W w') := fun W hW => by rw [HXL.out]; exact rfield_calls t nm W hfm ((row_cells (HHL.out.tab t (by simp)).fs).below hW)
  by_cases h6 : placeF t.fs nm ≥ 0
  · have HO : Hid (rLine ln ws (tbs (us ++ [t]), bg) = .error (ln, 64)) := by rw [Hid, HO3.out, if_pos h6]
    have q6 : decide ((0 : Int) ≤ placeF t.fs nm) = true := by simpa using h6
    clear h6
    go_enter Tryd.func11, Tryd.ntmps11
    go_upto_region 18 with fail
    go_region_held3 (fun W => W.cell? ⟨g, 1, none⟩ = some (.string nm) ∧ W.cell? ⟨gt, us.length * 3, none⟩ = some (.string t.n) ∧ W.cell? ⟨gt, us.length * 3 + 1, none⟩ = some (.slice t.fa t.fs.length t.fc) ∧ W.cell? ⟨gt, us.length * 3 + 2, none⟩ = some (.slice t.xa 0 t.xc)) (first | (exact q3) | go_keep)
      (first
        | (go_at_call 23
           refine (HFC.out w.drew ⟨rfl, rfl, rfl, Nat.le_refl _, fun _ _ => rfl⟩).mono ?_
           rintro e w9 ⟨rfl, hb9⟩
           have HB9 : Hid (Below w.heap.size w w9) := ⟨hb9.os, hb9.tape, hb9.output, hb9.size, hb9.block⟩
           have q3 : w9.cell? ⟨g, 1, none⟩ = some (.string nm) ∧ w9.cell? ⟨gt, us.length * 3, none⟩ = some (.string t.n) ∧ w9.cell? ⟨gt, us.length * 3 + 1, none⟩ = some (.slice t.fa t.fs.length t.fc) ∧ w9.cell? ⟨gt, us.length * 3 + 2, none⟩ = some (.slice t.xa 0 t.xc) := ⟨by rw [HB9.out.cell (by exact hgw)]; exact c1, by rw [HB9.out.cell (by exact hgt)]; exact t0, by rw [HB9.out.cell (by exact hgt)]; exact t1, by rw [HB9.out.cell (by exact hgt)]; exact t2⟩
           clear hb9))
    go_wp2
    go_ret2
    rw [HO.out]
    exact ⟨Fr.ofBelow HB9.out hB, _, rfl⟩
  have HO4 : Hid (rLine ln ws (tbs (us ++ [t]), bg) = if t.fs.length = 16 then .error (ln, 65) else .ok (tbs us ++ [{ t.tb with fs := t.fs ++ [⟨nm, kindB kw⟩] }], bg)) := by rw [Hid, HO3.out, if_neg h6]
  have q6 : decide ((0 : Int) ≤ placeF t.fs nm) = false := by simpa using h6
  clear h6 HO3
  go_enter Tryd.func11, Tryd.ntmps11
  go_upto_region 18 with fail
  go_region_held3 (fun W => W.cell? ⟨g, 1, none⟩ = some (.string nm) ∧ W.cell? ⟨gt, us.length * 3, none⟩ = some (.string t.n) ∧ W.cell? ⟨gt, us.length * 3 + 1, none⟩ = some (.slice t.fa t.fs.length t.fc) ∧ W.cell? ⟨gt, us.length * 3 + 2, none⟩ = some (.slice t.xa 0 t.xc)) (first | (exact q3) | go_keep)
    (first
      | (go_at_call 23
         refine (HFC.out w.drew ⟨rfl, rfl, rfl, Nat.le_refl _, fun _ _ => rfl⟩).mono ?_
         rintro e w9 ⟨rfl, hb9⟩
         have HB9 : Hid (Below w.heap.size w w9) := ⟨hb9.os, hb9.tape, hb9.output, hb9.size, hb9.block⟩
         have q3 : w9.cell? ⟨g, 1, none⟩ = some (.string nm) ∧ w9.cell? ⟨gt, us.length * 3, none⟩ = some (.string t.n) ∧ w9.cell? ⟨gt, us.length * 3 + 1, none⟩ = some (.slice t.fa t.fs.length t.fc) ∧ w9.cell? ⟨gt, us.length * 3 + 2, none⟩ = some (.slice t.xa 0 t.xc) := ⟨by rw [HB9.out.cell (by exact hgw)]; exact c1, by rw [HB9.out.cell (by exact hgt)]; exact t0, by rw [HB9.out.cell (by exact hgt)]; exact t1, by rw [HB9.out.cell (by exact hgt)]; exact t2⟩
         clear hb9))
  have HT9 : Hid (Tabs w9 B (.slice (some ⟨gt, 0, none⟩) (us ++ [t]).length tc) (us ++ [t])) := HHL.out.below HB9.out
  have HG9 : Hid (w9.heap[g]? = some (.cells csg 9)) := (HB9.out.block _ hgw).trans HGT.out
  have hgw9 : g < w9.heap.size := Nat.lt_of_lt_of_le hgw HB9.out.size
  have hgt9 : gt < w9.heap.size := Nat.lt_of_lt_of_le hgt HB9.out.size
  have d1 : w9.cell? ⟨g, 1, none⟩ = some (.string nm) := q3.1
  have d2 : w9.cell? ⟨g, 2, none⟩ = some (.string kw) := by rw [HB9.out.cell (by exact hgw)]; exact c2
  have ht1 : w9.cell? ⟨gt, us.length * 3 + 1, none⟩ = some (.slice t.fa t.fs.length t.fc) := q3.2.2.1
  have hB9 : B ≤ w9.heap.size := Nat.le_trans hB HB9.out.size
  have HFr9 : Hid (Fr B w w9) := Fr.ofBelow HB9.out hB
  clear q3 c1 c2 t0 t1 t2 HFC
  by_cases h7 : t.fs.length = 16
  · have HO : Hid (rLine ln ws (tbs (us ++ [t]), bg) = .error (ln, 65)) := by rw [Hid, HO4.out, if_pos h7]
    have q7 : (16 : Int) ≤ (t.fs.length : Int) := by omega
    clear h7
    go_wp2
    go_ret2
    rw [HO.out]
    exact ⟨HFr9.out, _, rfl⟩
  have HO : Hid (rLine ln ws (tbs (us ++ [t]), bg) = .ok (tbs us ++ [{ t.tb with fs := t.fs ++ [⟨nm, kindB kw⟩] }], bg)) := by rw [Hid, HO4.out, if_neg h7]
  have q7 : ¬ ((16 : Int) ≤ (t.fs.length : Int)) := by omega
  have hlt16 : t.fs.length < 16 := by omega
  clear h7 HO4
  obtain ⟨i0, hi, hz0, hz1, hz2⟩ := info_of info_field
  have hi1 : (us.length : Int) < (us.length : Int) + 1 := by omega
  have hne2 : some gt ≠ t.fv.ownBlock := fun e => rows_ne (HT9.out.tab t (by simp)).fs HT9.out.row (by decide) gt rfl e.symm
  have hggt : g ≠ gt := fun e => by subst e; exact row_ne HT9.out.row HG9.out (by decide) rfl
  have hne1 : some g ≠ t.fv.ownBlock := fun e => row_ne (HT9.out.tab t (by simp)).fs HG9.out (by decide) e.symm
  go_upto_region 22 with fail
  go_region_law
    (first
      | (refine step_append_lies _ rfl (.tmp 85) (.tmp 94) 32 rfl B 40 i0 _ 2 24 Tryd.underlying32 hi hz0 hz1 hz2 rfl (by decide) (.slice t.fa t.fs.length t.fc) t.fs.length (fcs t.fs) rfl ((HT9.out.tab t (by simp)).fs.alloc _) _ 1 1 [.string nm, .int .i64 (kindB kw)] rfl rfl (cells_new _ _ _) (by simp [Value.oneCell']) (by decide) (by unfold maxLen; omega) (by omega) (by simp; omega) _ rfl ?_
         intro g4 cap4 w4 ho4 hg4 hat4 hlt4
         have HG4 : Hid (Grew w9 w4 (.slice t.fa t.fs.length t.fc) (.slice (some ⟨g4, 0, none⟩) (t.fs.length + 1) cap4)) := grew_lies (o := .cells #[.string nm, .int .i64 (kindB kw)] 40) ⟨hg4.os, hg4.tape, hg4.output, hg4.size, hg4.block⟩ hat4 rfl
         have HO4 : Hid (w4.ownsRow B 40 2 (.slice (some ⟨g4, 0, none⟩) (t.fs.length + 1) cap4) (t.fs.length + 1) (fcs t.fs ++ [.string nm, .int .i64 (kindB kw)])) := ho4
         have q4 : w4.cell? ⟨g, 1, none⟩ = some (.string nm) ∧ w4.cell? ⟨g, 2, none⟩ = some (.string kw) := ⟨HG4.out.cell d1 hne1, HG4.out.cell d2 hne1⟩
         have ht4 : w4.cell? ⟨gt, us.length * 3 + 1, none⟩ = some (.slice t.fa t.fs.length t.fc) := HG4.out.cell ht1 hne2
         have hz4 : w4.frozen? ⟨gt, us.length * 3 + 1, none⟩ = false := World.ownsRow.frozenAt (row_grew HT9.out.row HG4.out (rows_ne HT9.out.row (HT9.out.tab t (by simp)).fs (by decide))) _
         clear ho4 hg4 hat4 hlt4)
      | (go_simp
         go_at_call 20
         refine (rkind_calls kw _).mono ?_
         rintro e wk ⟨rfl, rfl⟩))
  all_goals
    have hfr := (HT9.out.tab t (by simp)).fs
    have hTn := HT9.out.addField HO4.out HG4.out (name_size HNB.out.1) (kind_range HNB.out.2) hlt16
    have hrt := row_grew HT9.out.row HG4.out (rows_ne HT9.out.row hfr (by decide))
    obtain ⟨cs4, hcs4⟩ := row_typed hrt gt rfl
    have HFn : Hid (Fr B w (w4.setCell ⟨gt, us.length * 3 + 1, none⟩ (.slice (some ⟨g4, 0, none⟩) (t.fs.length + 1) cap4))) :=
      HFr9.out.trans ((Fr.grew hfr (Nat.le_refl _) hB9 HG4.out (by decide)).trans (Fr.set hcs4 (World.ownsRow.lt hrt gt rfl).1 (by decide) _))
    have HTn : Hid (Tabs _ B _ _) := hTn
    clear hTn hrt hcs4 hfr
    go_wp2
    go_ret2
    rw [HO.out]
    exact ⟨HFn.out, _, us ++ [⟨t.n, t.fs ++ [⟨nm, kindB kw⟩], some ⟨g4, 0, none⟩, cap4, t.xs, t.xa, t.xc⟩], rfl, by rw [tbs_snoc]; rfl, by have h := HTn.out; rw [show (us ++ [t]).length = us.length + 1 by simp] at h; exact h⟩
end Go.Proofs.YtbpmahchinblhaaDoor
