/- Layer 6 (schema): the document's line of a table. -/
import Derived.Test.YtbpmahchinblhaaDoorSRLine0
namespace Go.Proofs.YtbpmahchinblhaaDoor
open Go.RowKit
set_option linter.unusedVariables false

set_option maxRecDepth 100000 in
set_option maxHeartbeats 2000000 in
theorem rline_table (B g cap : Nat) (v : Value) (ts : List TV) (ln bg : Int) (ws : List ByteArray) (w : World) (h0 : 0 < ws.length) (hcap : ws.length ≤ cap) (hc : CellsAt w (some ⟨g, 0, none⟩) (ws.map Value.string)) (hs : ∀ x ∈ ws, x.size ≤ 8192)
    (hw : ws[0] = tableW) (hf : formP ws = 0) (ht : Tabs w B v ts) (hB : B ≤ w.heap.size) :
    Calls Tryd.prog 11 #[v, .slice (some ⟨g, 0, none⟩) ws.length cap] w fun e w' => LineR B w (rLine ln ws (tbs ts, bg)) e w' := by
  have hgd : ws.getD 0 ⟨#[]⟩ = tableW := by rw [word_at h0]; exact hw
  have hl2 : ws.length = 2 := by
    unfold formP at hf
    rw [if_pos hgd] at hf
    by_cases h : ws.length = 2
    · exact h
    · rw [if_pos h] at hf; cases hf
  have hnb : nameB ws[1] = true := by
    unfold formP at hf
    rw [if_pos hgd, if_neg (by omega), word_at (by omega : 1 < ws.length)] at hf
    cases h : nameB ws[1] with
    | true => rfl
    | false => rw [if_pos h] at hf; cases hf
  have HO1 : Hid (rLine ln ws (tbs ts, bg) = if bareB (tbs ts) then .error (bg, 68) else if ts.any (fun t => decide (t.n = ws[1])) then .error (ln, 64) else if ts.length = 16 then .error (ln, 65) else .ok (tbs ts ++ [⟨ws[1], [], []⟩], ln)) := by
    unfold rLine rTable
    rw [Hid, if_pos hgd, if_neg (by omega), word_at (by omega : 1 < ws.length), if_neg (by rw [hnb]; simp), any_tbs, show (tbs ts).length = ts.length from List.length_map _]
  have c0 := words_cell hc 0 h0
  have c1 := words_cell hc 1 (by omega)
  rw [hw] at c0
  have u0 : tableW.toList = [116, 97, 98, 108, 101] := by rw [ByteArray.toList_eq]; rfl
  obtain ⟨nm, hnm⟩ : ∃ nm, nm = ws[1] := ⟨_, rfl⟩
  rw [← hnm] at c1 HO1 hnb
  have hn32 : nm.size ≤ 32 := name_size hnb
  have HT : Hid (Tabs w B v ts) := ht
  have hgw : g < w.heap.size := World.block_lt_of_cell? w _ c1
  have hm := ht.most
  obtain ⟨ao, tc, rfl, hg⟩ := ht.form
  rw [hl2] at hcap ⊢
  clear hs hw hf hgd hc h0 hnb hl2 hnm ht
  have HBare : Hid (Calls Tryd.prog 12 #[.slice ao ts.length tc] w fun e w' => e = .returned (.bool (bareB (tbs ts))) ∧ w' = w) := by
    rcases nil_or_snoc ts with rfl | ⟨us, t, rfl⟩
    · exact rbare_none ao tc w
    · obtain ⟨g', rfl, hcap', t0, t1, t2, cs, hgb⟩ := HT.out.lastAt
      have h16 : us.length < 100 := by have := HT.out.most; simp at this; omega
      have := rbare_some g' us.length tc t.xa t.xs.length t.xc w h16 t2
      rw [bare_snoc, show (us ++ [t]).length = us.length + 1 by simp]
      refine this.mono ?_
      rintro e w' ⟨rfl, rfl⟩
      refine ⟨ret_bool ?_, rfl⟩
      by_cases h : t.xs.length = 0 <;> simp [h]
  cases hb : bareB (tbs ts) with
  | true =>
    have HO : Hid (rLine ln ws (tbs ts, bg) = .error (bg, 68)) := by rw [Hid, HO1.out, if_pos hb]
    rw [hb] at HBare
    clear hb HO1
    go_enter Tryd.func11, Tryd.ntmps11
    go_wp2_with fail
    refine HBare.out.mono ?_
    rintro e w' ⟨rfl, rfl⟩
    go_wp2
    go_ret2
    rw [HO.out]
    exact ⟨Fr.refl _ _, _, rfl⟩
  | false =>
    rw [hb] at HBare
    go_enter Tryd.func11, Tryd.ntmps11
    go_wp2_with fail
    refine HBare.out.mono ?_
    clear HBare
    rintro e w' ⟨rfl, hw'⟩
    rw [hw']
    clear hw'
    go_wp2
    go_loopw [8, 24] (fun a8 x wr => ∃ k : Nat, k ≤ ts.length ∧ x = .int .i64 k ∧ Hid (noneTo (fun t => decide (t.n = nm)) ts k) ∧ Hid (Below w.heap.size w wr)) (fun _ x _ => ts.length - (intOf x).toNat)
    case atStart => exact ⟨0, Nat.zero_le _, rfl, noneTo.zero _ _, Below.refl _ _⟩
    case round =>
      obtain ⟨k, hk, rfl, HK, HBr⟩ := hrel
      have d1 : wr.cell? ⟨g, 1, none⟩ = some (.string nm) := by rw [HBr.out.cell (by exact hgw)]; exact c1
      have hgr : g < wr.heap.size := Nat.lt_of_lt_of_le hgw HBr.out.size
      by_cases hlt : k < ts.length
      · obtain ⟨b, off, rfl, t0, t1, t2⟩ := ((row_cells HT.out.row).below HBr.out).tab k hlt
        by_cases e1 : ts[k].n = nm
        · have HO : Hid (rLine ln ws (tbs ts, bg) = .error (ln, 64)) := by rw [Hid, HO1.out, if_neg (by rw [hb]; simp), if_pos (any_at _ _ k hlt (by simpa using e1)).symm]
          have q1 : (ts[k].n.toList == nm.toList) = true := by rw [beq_toList]; simpa using e1
          clear e1
          go_wp2
          go_quiet (fail)
          go_wp2
          go_ret2
          rw [HO.out]
          exact ⟨Fr.ofBelow ((HBr.out.alloc HBr.out.size _).trans ((below_draws _ _).mono (by simp; have := HBr.out.size; omega))) hB, _, rfl⟩
        · have HE : Hid (decide (ts[k].n = nm) = false) := by simpa [Hid] using e1
          have q1 : (ts[k].n.toList == nm.toList) = false := by rw [beq_toList]; simpa using e1
          clear e1
          go_wp2
          go_quiet (fail)
          go_wp2
          go_roundw
          case rel => exact ⟨k + 1, by omega, by go_num, HK.out.succ hlt HE.out, (HBr.out.alloc HBr.out.size _).trans ((below_draws _ _).mono (by simp; have := HBr.out.size; omega))⟩
          case measure => simp [intOf]; omega
      · have HA : Hid (ts.any (fun t => decide (t.n = nm)) = false) := (HK.out.any (by omega)).symm
        have HT3 : Hid (Tabs wr B (.slice ao ts.length tc) ts) := HT.out.below HBr.out
        clear HK
        by_cases h5 : ts.length = 16
        · have HO : Hid (rLine ln ws (tbs ts, bg) = .error (ln, 65)) := by rw [Hid, HO1.out, if_neg (by rw [hb]; simp), if_neg (by rw [HA.out]; simp), if_pos h5]
          have q5 : (16 : Int) ≤ (ts.length : Int) := by omega
          clear h5
          go_wp2
          go_ret2
          rw [HO.out]
          exact ⟨Fr.ofBelow HBr.out hB, _, rfl⟩
        · have HO : Hid (rLine ln ws (tbs ts, bg) = .ok (tbs ts ++ [⟨nm, [], []⟩], ln)) := by rw [Hid, HO1.out, if_neg (by rw [hb]; simp), if_neg (by rw [HA.out]; simp), if_neg h5]
          have q5 : ¬ ((16 : Int) ≤ (ts.length : Int)) := by omega
          have hlt16 : ts.length < 16 := by omega
          have hB3 : B ≤ wr.heap.size := Nat.le_trans hB HBr.out.size
          have hrow := HT3.out.row
          clear h5
          go_wp2_with (at_builtin; refine append_row _ rfl (.tmp 40) (.tmp 45) _ 35 _ 3 64 Tryd.underlying23 info_table rfl (by decide) rfl B _ ts.length _ rfl [.string nm, .slice none 0 0, .slice none 0 0] rfl (by simp [Value.oneCell']) _ _ rfl rfl rfl hrow (by omega) (by omega) hB3 ?_)
          intro v6 w6 hrow6 hgr6
          have HT6 : Hid (Tabs w6 B v6 (ts ++ [⟨nm, [], none, 0, [], none, 0⟩])) := HT3.out.push hrow6 hgr6 hn32 hlt16
          have HF6 : Hid (Fr B w w6) := (Fr.ofBelow HBr.out hB).trans (Fr.grew hrow (Nat.le_refl _) hB3 hgr6 (by decide))
          clear hrow6 hgr6 hrow
          go_wp2
          go_ret2
          rw [HO.out]
          exact ⟨HF6.out, _, _, rfl, by simp [tbs, TV.tb], HT6.out⟩
end Go.Proofs.YtbpmahchinblhaaDoor
