/- Layer 6 (schema): readTable. -/
import Derived.Test.YtbpmahchinblhaaDoorSRd
namespace Go.Proofs.YtbpmahchinblhaaDoor
open Go.RowKit
set_option linter.unusedVariables false

theorem name_size {s : ByteArray} (h : nameB s = true) : s.size ≤ 32 := by
  unfold nameB nameL at h
  simp only [Bool.and_eq_true, decide_eq_true_eq] at h
  have := h.1.1.2
  simpa using this
theorem any_tbs (ts : List TV) (n : ByteArray) : (tbs ts).any (fun t => decide (t.n = n)) = ts.any (fun t => decide (t.n = n)) := by
  unfold tbs; rw [List.any_map]; rfl
theorem bare_nil : bareB (tbs []) = false := rfl
theorem bare_snoc (us : List TV) (t : TV) : bareB (tbs (us ++ [t])) = (t.xs.length == 0) := by
  simp [bareB, tbs, TV.tb]
theorem info_table : (Tryd.prog.info? 35).map (fun i => (i.zero, i.size, i.bytes)) = some (some (.agg #[.string ⟨#[]⟩, .slice none 0 0, .slice none 0 0]), 3, 64) := by kernel_rfl

/-- What endTable does, by the tables. -/
theorem endTable_calls (rb : Nat) (B : Nat) (v : Value) (ts : List TV) (ln bg : Int) (w : World) (h : RdAt w rb v ln bg) (ht : Tabs w B v ts) :
    Calls Tryd.prog 29 #[.pointer (some ⟨rb, 0, none⟩)] w fun e w' => e = (if bareB (tbs ts) then .panicked [{ v := faultV bg 68, recovered := false }] else .returned (.tuple #[])) ∧ ∃ m, w' = w.drewN m := by
  obtain ⟨ao, cap, rfl, hg⟩ := ht.form
  have hm := ht.most
  rcases List.eq_nil_or_concat ts with rfl | ⟨us, t, rfl⟩
  · rw [bare_nil]
    exact (endTable_none rb ao cap ln bg w h).mono fun e w' ⟨he, hw⟩ => ⟨he, 0, hw⟩
  · simp only [List.concat_eq_append] at *
    obtain ⟨g, rfl⟩ := hg (by simp)
    rw [List.length_append] at h hm
    have hrow := ht.row
    have hcap : us.length + 1 ≤ cap := by
      rcases hrow.2 with ⟨he, h0⟩ | ⟨g', cap', cur, he, _, _, hc, _⟩
      · simp at h0
      · simp only [Value.slice.injEq] at he
        obtain ⟨_, _, rfl⟩ := he
        simpa using hc
    obtain ⟨b, off, e, c0, c1, c2⟩ := (row_cells hrow).tab us.length (by simp)
    simp only [Option.some.injEq, Addr.mk.injEq] at e
    obtain ⟨rfl, rfl, _⟩ := e
    simp only [List.getElem_append_right (Nat.le_refl _), Nat.sub_self, List.getElem_cons_zero, Nat.zero_add] at c2
    rw [bare_snoc]
    cases hx : t.xs.length with
    | zero =>
      rw [hx] at c2
      exact endTable_bare rb g us.length cap t.xa t.xc ln bg w (by simp at hm; omega) hcap h c2
    | succ k =>
      rw [hx] at c2
      exact endTable_full rb g us.length cap t.xa k t.xc ln bg w (by simp at hm; omega) hcap h c2

set_option maxRecDepth 100000 in
set_option maxHeartbeats 4000000 in
theorem readTable_calls (rb wb cap : Nat) (B : Nat) (v : Value) (ts : List TV) (ln bg : Int) (ws : List ByteArray) (w : World) (hB : B ≤ rb) (hr : RdAt w rb v ln bg) (ht : Tabs w B v ts) (hw : StrsAt w wb ws) (hl : ws.length ≤ 100000) (hs : ∀ x ∈ ws, x.size ≤ 100000) :
    Calls Tryd.prog 35 #[.pointer (some ⟨rb, 0, none⟩), .slice (some ⟨wb, 0, none⟩) ws.length cap] w fun e w' => Behind B w rb ln (rTable ln ws (tbs ts, bg)) e w' := by
  have HR : Hid (RdAt w rb v ln bg) := hr
  have HT : Hid (Tabs w B v ts) := ht
  by_cases h1 : ws.length ≠ 2
  · have HO : Hid (rTable ln ws (tbs ts, bg) = .error (ln, 61)) := by unfold rTable; rw [Hid, if_pos h1]
    have q : ((ws.length : Int) != 2) = true := by simp; omega
    clear hr ht hw
    go_enter Tryd.func35, Tryd.ntmps35
    go_wp2_with (go_at_call 25; refine (refuse_do rb _ ln bg 61 w HR.out).mono ?_; rintro e w' ⟨rfl, rfl⟩)
    rw [HO.out]
    exact ⟨rfl, rfl, Fr.refl _ _⟩
  have h1 : ws.length = 2 := Decidable.not_not.1 h1
  obtain ⟨ao, tc, rfl, hg⟩ := ht.form
  have hm := ht.most
  have c1 := hw.cell 1 (by omega)
  have hsz := hs _ (List.getElem_mem (by omega : 1 < ws.length))
  have q1 : ((ws.length : Int) != 2) = false := by simp; omega
  have hO1 : Hid (rTable ln ws (tbs ts, bg) = if nameB ws[1] = false then .error (ln, 62) else if bareB (tbs ts) then .error (bg, 68) else if ts.any (fun t => decide (t.n = ws[1])) then .error (ln, 64) else if ts.length = 16 then .error (ln, 65) else .ok (tbs ts ++ [⟨ws[1], [], []⟩], ln)) := by
    have HD : ws.getD 1 ⟨#[]⟩ = ws[1] := by rw [List.getD_eq_getElem?_getD, List.getElem?_eq_getElem (by omega)]; rfl
    unfold rTable
    rw [Hid, if_neg (by omega), HD, any_tbs, show (tbs ts).length = ts.length from List.length_map _]
  clear hw hs hr ht
  obtain ⟨nm, hnm⟩ : ∃ nm, nm = ws[1] := ⟨_, rfl⟩
  rw [← hnm] at hO1 c1 hsz
  have hlen : (1 : Int) < (ws.length : Int) := by omega
  clear hnm
  generalize ws.length = wl at *
  cases h2 : nameB nm with
  | false =>
    have HO : Hid (rTable ln ws (tbs ts, bg) = .error (ln, 62)) := by rw [Hid, hO1.out, if_pos h2]
    go_enter Tryd.func35, Tryd.ntmps35
    go_wp2_with fail
    refine (refuse_not rb 61 _).mono ?_; rintro e w1 ⟨rfl, rfl⟩
    go_wp2_with fail
    refine (isName_calls nm _ (by omega)).mono ?_; rintro e w1 ⟨rfl, rfl⟩
    go_wp2_with fail
    refine (refuse_do rb _ ln bg 62 _ HR.out).mono ?_; rintro e w1 ⟨rfl, rfl⟩
    go_wp2
    rw [HO.out]
    exact ⟨rfl, rfl, Fr.refl _ _⟩
  | true =>
  cases h3 : bareB (tbs ts) with
  | true =>
    have HO : Hid (rTable ln ws (tbs ts, bg) = .error (bg, 68)) := by rw [Hid, hO1.out, if_neg (by simp [h2]), if_pos h3]
    have HE : Hid (Calls Tryd.prog 29 #[.pointer (some ⟨rb, 0, none⟩)] w fun e w' => e = .panicked [{ v := faultV bg 68, recovered := false }] ∧ ∃ m, w' = w.drewN m) := by
      have := endTable_calls rb B _ ts ln bg w HR.out HT.out
      rw [h3, if_pos rfl] at this
      exact this
    go_enter Tryd.func35, Tryd.ntmps35
    go_wp2_with fail
    refine (refuse_not rb 61 _).mono ?_; rintro e w1 ⟨rfl, rfl⟩
    go_wp2_with fail
    refine (isName_calls nm _ (by omega)).mono ?_; rintro e w1 ⟨rfl, rfl⟩
    go_wp2_with fail
    refine (refuse_not rb 62 _).mono ?_; rintro e w1 ⟨rfl, rfl⟩
    go_wp2_with fail
    refine HE.out.mono ?_; rintro e w2 ⟨rfl, m, rfl⟩
    go_wp2
    rw [HO.out]
    exact ⟨rfl, rfl, Fr.ofBelow (below_draws _ _) (by have := lt_blk HR.out; omega)⟩
  | false =>
    have HE : Hid (Calls Tryd.prog 29 #[.pointer (some ⟨rb, 0, none⟩)] w fun e w' => e = .returned (.tuple #[]) ∧ ∃ m, w' = w.drewN m) := by
      have := endTable_calls rb B _ ts ln bg w HR.out HT.out
      rw [h3, if_neg (by simp)] at this
      exact this
    have hBw : B ≤ w.heap.size := by have := lt_blk HR.out; omega
    go_enter Tryd.func35, Tryd.ntmps35
    go_wp2_with fail
    refine (refuse_not rb 61 _).mono ?_; rintro e w1 ⟨rfl, rfl⟩
    go_wp2_with fail
    refine (isName_calls nm _ (by omega)).mono ?_; rintro e w1 ⟨rfl, rfl⟩
    go_wp2_with fail
    refine (refuse_not rb 62 _).mono ?_; rintro e w1 ⟨rfl, rfl⟩
    go_wp2_with fail
    refine HE.out.mono ?_; rintro e w2 ⟨rfl, m, hw2⟩
    have hb2 : Below w1.heap.size w1 w2 := hw2 ▸ below_draws w1 m
    clear hw2 HE c1
    have HR2 : Hid (RdAt w2 rb (.slice ao ts.length tc) ln bg) := HR.out.below hb2
    have HT2 : Hid (Tabs w2 B (.slice ao ts.length tc) ts) := HT.out.below hb2
    have c0 : w2.cell? ⟨rb, 0, none⟩ = some (.slice ao ts.length tc) := by rw [cell_blk HR2.out]; rfl
    go_wp2_with fail
    refine (hasTable_calls ao tc ts nm w2 hm (row_cells HT2.out.row)).mono ?_
    rintro e w3 ⟨rfl, hb3⟩
    have hb3' : Below w1.heap.size w1 w3 := hb2.trans (hb3.mono hb2.size)
    have HR3 : Hid (RdAt w3 rb (.slice ao ts.length tc) ln bg) := HR.out.below hb3'
    have HT3 : Hid (Tabs w3 B (.slice ao ts.length tc) ts) := HT.out.below hb3'
    clear c0 HR2 HT2 hb2 hb3
    have c0 : w3.cell? ⟨rb, 0, none⟩ = some (.slice ao ts.length tc) := by rw [cell_blk HR3.out]; rfl
    have cl : w3.cell? ⟨rb, 1, none⟩ = some (.int .i64 ln) := by rw [cell_blk HR3.out]; rfl
    cases h4 : ts.any (fun t => decide (t.n = nm)) with
    | true =>
      have HO : Hid (rTable ln ws (tbs ts, bg) = .error (ln, 64)) := by rw [Hid, hO1.out, if_neg (by simp [h2]), if_neg (by simp [h3]), if_pos h4]
      go_wp2_with fail
      refine (refuse_do rb _ ln bg 64 _ HR3.out).mono ?_; rintro e w4 ⟨rfl, rfl⟩
      go_wp2
      rw [HO.out]
      exact ⟨rfl, rfl, Fr.ofBelow hb3' hBw⟩
    | false =>
      go_wp2_with fail
      refine (refuse_not rb 64 _).mono ?_; rintro e w4 ⟨rfl, rfl⟩
      by_cases h5 : ts.length = 16
      · have HO : Hid (rTable ln ws (tbs ts, bg) = .error (ln, 65)) := by rw [Hid, hO1.out, if_neg (by simp [h2]), if_neg (by simp [h3]), if_neg (by simp [h4]), if_pos h5]
        have q5 : ((ts.length : Int) == 16) = true := by simp; omega
        clear h5
        go_wp2_with fail
        refine (refuse_do rb _ ln bg 65 _ HR3.out).mono ?_; rintro e w4 ⟨rfl, rfl⟩
        go_wp2
        rw [HO.out]
        exact ⟨rfl, rfl, Fr.ofBelow hb3' hBw⟩
      · have HO : Hid (rTable ln ws (tbs ts, bg) = .ok (tbs ts ++ [⟨nm, [], []⟩], ln)) := by rw [Hid, hO1.out, if_neg (by simp [h2]), if_neg (by simp [h3]), if_neg (by simp [h4]), if_neg h5]
        have q5 : ((ts.length : Int) == 16) = false := by simp; omega
        go_wp2_with fail
        refine (refuse_not rb 65 _).mono ?_; rintro e w5 ⟨rfl, rfl⟩
        have hB3 : B ≤ w5.heap.size := Nat.le_trans hBw hb3'.size
        go_wp2_with (at_builtin; refine append_row _ rfl (.tmp 40) (.tmp 43) _ 35 _ 3 64 Tryd.underlying23 info_table rfl (by decide) rfl B _ ts.length _ rfl [.string nm, .slice none 0 0, .slice none 0 0] rfl (by simp [Value.oneCell']) _ _ rfl rfl rfl HT3.out.row (by omega) (by omega) hB3 ?_)
        intro v6 w6 hrow6 hgr6
        have HR6 : Hid (RdAt w6 rb (.slice ao ts.length tc) ln bg) := (hgr6.grown.block rb (lt_blk HR3.out) (fun e => row_ne HT3.out.row HR3.out (by decide) e.symm)).trans HR3.out
        have hn32 : nm.size ≤ 32 := name_size h2
        have HT6 : Hid (Tabs w6 B v6 (ts ++ [⟨nm, [], none, 0, [], none, 0⟩])) := HT3.out.push hrow6 hgr6 hn32 (by omega)
        have HF6 : Hid (Fr B w5 w6) := Fr.grew HT3.out.row (Nat.le_refl _) hB3 hgr6 (by decide)
        obtain ⟨a6, c6, rfl, -⟩ := row_forms hrow6
        clear hrow6 hgr6 c0 cl
        have c0 : w6.cell? ⟨rb, 0, none⟩ = some (.slice ao ts.length tc) := by rw [cell_blk HR6.out]; rfl
        have cl : w6.cell? ⟨rb, 1, none⟩ = some (.int .i64 ln) := by rw [cell_blk HR6.out]; rfl
        have cb : w6.cell? ⟨rb, 2, none⟩ = some (.int .i64 bg) := by rw [cell_blk HR6.out]; rfl
        have z0 : w6.frozen? ⟨rb, 0, none⟩ = false := frozen_blk HR6.out
        have z2 : w6.frozen? ⟨rb, 2, none⟩ = false := frozen_blk HR6.out
        go_wp2
        go_end0
        rw [HO.out]
        have hA := HT6.out.set HR6.out (i := 0) (by decide) (by decide) (by decide) (by decide) (.slice a6 (ts.length + 1) c6)
        have hR := set_blk (i := 0) HR6.out (.slice a6 (ts.length + 1) c6)
        have hA2 := hA.set hR (i := 2) (by decide) (by decide) (by decide) (by decide) (.int .i64 ln)
        have hR2 := set_blk (i := 2) hR (.int .i64 ln)
        have hF2 := (Fr.ofBelow hb3' hBw).trans (HF6.out.trans ((Fr.set (i := 0) HR6.out hB (by decide) (.slice a6 (ts.length + 1) c6)).trans (Fr.set (i := 2) hR hB (by decide) (.int .i64 ln))))
        exact ⟨rfl, hF2, _, _, by simp [tbs, TV.tb], hR2, hA2⟩
end Go.Proofs.YtbpmahchinblhaaDoor
