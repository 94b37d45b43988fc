/- Layer 6 (schema): readField. -/
import Derived.Test.YtbpmahchinblhaaDoorSTable
import Derived.Test.YtbpmahchinblhaaDoorSAdd
import Derived.Deep.DeepCutAuto
import Derived.Deep.CutRange
import Derived.Deep.RegionHeld3
import Derived.Deep.RegionHeldLaw
import Derived.Deep.AppendLies
import Derived.Deep.RegionLaw
namespace Go.Proofs.YtbpmahchinblhaaDoor
open Go.RowKit Go.Shelf
set_option linter.unusedVariables false
attribute [local go_sem] Oper.semAt_some

theorem KindsAt.below {w w' : World} (h : KindsAt w) (hb : Below w.heap.size w w') : KindsAt w' := by
  have h0 : 0 < w.heap.size := World.block_lt_of_cell? w _ h.c0
  exact ⟨by rw [hb.cell (by exact h0)]; exact h.c0, by rw [hb.cell (by exact h0)]; exact h.c1, by rw [hb.cell (by exact h0)]; exact h.c2, by rw [hb.cell (by exact h0)]; exact h.c3, by rw [hb.cell (by exact h0)]; exact h.c4, by rw [hb.cell (by exact h0)]; exact h.c5⟩
theorem KindsAt.fr {B : Nat} {w w' : World} (h : KindsAt w) (hf : Fr B w w') (hB : 0 < B) : KindsAt w' := by
  have hb := hf.below
  exact ⟨by rw [hb.cell (by exact hB)]; exact h.c0, by rw [hb.cell (by exact hB)]; exact h.c1, by rw [hb.cell (by exact hB)]; exact h.c2, by rw [hb.cell (by exact hB)]; exact h.c3, by rw [hb.cell (by exact hB)]; exact h.c4, by rw [hb.cell (by exact hB)]; exact h.c5⟩

/-- The last table's cells. -/
theorem Tabs.lastAt {w : World} {B : Nat} {ao : Option Addr} {cap : Nat} {us : List TV} {t : TV} (h : Tabs w B (.slice ao (us ++ [t]).length cap) (us ++ [t])) :
    ∃ g, ao = some ⟨g, 0, none⟩ ∧ us.length + 1 ≤ cap ∧ w.cell? ⟨g, us.length * 3, none⟩ = some (.string t.n) ∧ w.cell? ⟨g, us.length * 3 + 1, none⟩ = some (.slice t.fa t.fs.length t.fc) ∧ w.cell? ⟨g, us.length * 3 + 2, none⟩ = some (.slice t.xa t.xs.length t.xc) ∧ ∃ cs, w.heap[g]? = some (.cells cs 35) := by
  have hrow := h.row
  obtain ⟨b, off, e, c0, c1, c2⟩ := (row_cells hrow).tab us.length (by simp)
  rcases hrow.2 with ⟨he, h0⟩ | ⟨g', cap', cur, he, _, hcur, hc, _⟩
  · simp at h0
  · simp only [Value.slice.injEq] at he
    obtain ⟨rfl, _, rfl⟩ := he
    simp only [Option.some.injEq, Addr.mk.injEq] at e
    obtain ⟨rfl, rfl, _⟩ := e
    simp only [List.getElem_append_right (Nat.le_refl _), Nat.sub_self, List.getElem_cons_zero, Nat.zero_add] at c0 c1 c2
    exact ⟨_, rfl, by simpa using hc, c0, c1, c2, cur, hcur⟩

theorem kind_range {s : ByteArray} (h : ¬ kindB s = 0) : 1 ≤ kindB s ∧ kindB s ≤ 3 := by
  unfold kindB at h ⊢
  split
  · decide
  · split
    · decide
    · split
      · decide
      · simp_all
theorem nil_or_snoc {α : Type} (l : List α) : l = [] ∨ ∃ us t, l = us ++ [t] := by
  rcases List.eq_nil_or_concat l with h | ⟨us, t, h⟩
  · exact .inl h
  · exact .inr ⟨us, t, by rw [h, List.concat_eq_append]⟩
theorem tbs_snoc (us : List TV) (t : TV) : tbs (us ++ [t]) = tbs us ++ [t.tb] := by simp [tbs]

/-- The box of the new field. -/
structure FBox (w wx : World) (fb : Nat) (n : ByteArray) (k : Int) : Prop where
  below : Below w.heap.size w wx
  blk : wx.heap[fb]? = some (.cells #[.string n, .int .i64 k] 40)
  new : w.heap.size ≤ fb

set_option maxRecDepth 100000 in
set_option maxHeartbeats 4000000 in
theorem readField_calls (rb wb cap : Nat) (B : Nat) (v : Value) (ts : List TV) (ln bg : Int) (ws : List ByteArray) (w : World) (hB : B ≤ rb) (hr : RdAt w rb v ln bg) (ht : Tabs w B v ts) (hw : StrsAt w wb ws) (hk : KindsAt w) (hl : ws.length ≤ 100000) (hs : ∀ x ∈ ws, x.size ≤ 100000) :
    Calls Tryd.prog 36 #[.pointer (some ⟨rb, 0, none⟩), .slice (some ⟨wb, 0, none⟩) ws.length cap] w fun e w' => Behind B w rb ln (rField ln ws (tbs ts, bg)) e w' := by
  have HR : Hid (RdAt w rb v ln bg) := hr
  have HT : Hid (Tabs w B v ts) := ht
  by_cases h1 : ws.length ≠ 3
  · have HO : Hid (rField ln ws (tbs ts, bg) = .error (ln, 61)) := by unfold rField; rw [Hid, if_pos h1]
    have q : ((ws.length : Int) != 3) = true := by simp; omega
    clear hr ht hw
    go_enter Tryd.func36, Tryd.ntmps36
    go_wp2_with fail
    refine (refuse_do rb _ ln bg 61 w HR.out).mono ?_; rintro e w' ⟨rfl, rfl⟩
    go_wp2
    rw [HO.out]
    exact ⟨rfl, rfl, Fr.refl _ _⟩
  have h1 : ws.length = 3 := Decidable.not_not.1 h1
  have c1 := hw.cell 1 (by omega)
  have c2 := hw.cell 2 (by omega)
  have hsz := hs _ (List.getElem_mem (by omega : 1 < ws.length))
  have q1 : ((ws.length : Int) != 3) = false := by simp; omega
  obtain ⟨nm, hnm⟩ : ∃ nm, nm = ws[1] := ⟨_, rfl⟩
  obtain ⟨kw, hkw⟩ : ∃ nm, nm = ws[2] := ⟨_, rfl⟩
  rw [← hnm] at c1 hsz
  rw [← hkw] at c2
  have hO1 : Hid (∀ st, rField ln ws st = if kindB kw = 0 then .error (ln, 61) else if nameB nm = false then .error (ln, 62) else match st.1.getLast? with
      | none => .error (ln, 63)
      | some t => if t.xs.length > 0 then .error (ln, 63) else if placeF t.fs nm ≥ 0 then .error (ln, 64) else if t.fs.length = 16 then .error (ln, 65) else .ok (st.1.dropLast ++ [{ t with fs := t.fs ++ [⟨nm, kindB kw⟩] }], st.2)) := by
    intro st
    have HD : ws.getD 1 ⟨#[]⟩ = nm := by rw [List.getD_eq_getElem?_getD, List.getElem?_eq_getElem (by omega), hnm]; rfl
    have HD2 : ws.getD 2 ⟨#[]⟩ = kw := by rw [List.getD_eq_getElem?_getD, List.getElem?_eq_getElem (by omega), hkw]; rfl
    unfold rField
    rw [if_neg (by omega), HD, HD2]
    rfl
  have hwlt : wb < w.heap.size := lt_blk hw
  have hBw : B ≤ w.heap.size := by have := lt_blk HR.out; omega
  have HK : Hid (KindsAt w) := hk
  clear hw hs hr ht hnm hkw hk
  have hlen1 : (1 : Int) < (ws.length : Int) := by omega
  have hlen2 : (2 : Int) < (ws.length : Int) := by omega
  generalize ws.length = wl at *
  go_enter Tryd.func36, Tryd.ntmps36
  go_wp2_with fail
  refine (refuse_not rb 61 _).mono ?_; rintro e w1 ⟨rfl, rfl⟩
  go_wp2_with fail
  go_cut [4] from 11 to 18 (fun s4 wx => ∃ fb : Nat, s4 = .pointer (some ⟨fb, 0, none⟩) ∧ Hid (FBox w1 wx fb nm (kindB kw)))
  case first =>
    go_region_held3 (fun W => W.cell? ⟨wb, 1, none⟩ = some (.string nm) ∧ W.cell? ⟨wb, 2, none⟩ = some (.string kw)) (first | (exact q3) | (exact ⟨by rw [World.cell?_setCell_other _ _ _ _ (by intro e; have := congrArg Addr.block e; simp at this; omega), World.cell?_setCell_other _ _ _ _ (by intro e; have := congrArg Addr.block e; simp at this; omega)]; exact q3.1, by rw [World.cell?_setCell_other _ _ _ _ (by intro e; have := congrArg Addr.block e; simp at this; omega), World.cell?_setCell_other _ _ _ _ (by intro e; have := congrArg Addr.block e; simp at this; omega)]; exact q3.2⟩) | go_keep)
      (first
        | (go_at_call 46
           refine (kindOf_calls kw _ (by first | exact HK.out.below ((Below.refl _ _).drew) | exact HK.out.below (((Below.refl _ _).alloc (Nat.le_refl _) _).drew) | exact HK.out.below (((Below.refl _ _).drew).alloc (Nat.le_refl _) _))).mono ?_
           rintro e w3 ⟨rfl, hb3⟩
           have q3 : w3.cell? ⟨wb, 1, none⟩ = some (.string nm) ∧ w3.cell? ⟨wb, 2, none⟩ = some (.string kw) := ⟨by rw [hb3.cell (by simp; omega)]; first | assumption | (simp; assumption) | go_keep, by rw [hb3.cell (by simp; omega)]; first | assumption | (simp; assumption) | go_keep⟩
           try (have N3 : Hid (w3.heap[w1.heap.size]? = some (.cells #[.string ⟨#[]⟩, .int .i64 0] 40)) := (hb3.block _ (by simp)).trans (new_blk w1 _); have n0 : w3.cell? ⟨w1.heap.size, 0, none⟩ = some (.string ⟨#[]⟩) := (by rw [cell_blk N3.out]; rfl); have n1 : w3.cell? ⟨w1.heap.size, 1, none⟩ = some (.int .i64 0) := (by rw [cell_blk N3.out]; rfl); have z0 : w3.frozen? ⟨w1.heap.size, 0, none⟩ = false := frozen_blk N3.out; have z1 : w3.frozen? ⟨w1.heap.size, 1, none⟩ = false := frozen_blk N3.out)
           have HB3 : Hid (Below w1.heap.size w1 w3) := by
             first
               | exact ⟨hb3.os, hb3.tape, hb3.output, hb3.size, hb3.block⟩
               | exact (((Below.refl _ _).alloc (Nat.le_refl _) _).drew).trans (hb3.mono (by simp))
           clear hb3))
    · go_wp2
      go_meet
      case rel => exact ⟨w3.heap.size, rfl, ⟨HB3.out.alloc HB3.out.size _, new_blk _ _, HB3.out.size⟩⟩
    · go_wp2
      go_meet
      case rel => exact ⟨w1.heap.size, rfl, ⟨(HB3.out.setCell (Nat.le_refl _) _).setCell (Nat.le_refl _) _, set_blk (i := 1) (set_blk (i := 0) N3.out _) _, Nat.le_refl _⟩⟩
  case rest =>
    obtain ⟨fb, rfl, HF⟩ := hcut
    have hbc : Below w1.heap.size w1 wc := HF.out.below
    have hfnew : w1.heap.size ≤ fb := HF.out.new
    have b0 : wc.cell? ⟨fb, 0, none⟩ = some (.string nm) := by rw [cell_blk HF.out.blk]; rfl
    have b1 : wc.cell? ⟨fb, 1, none⟩ = some (.int .i64 (kindB kw)) := by rw [cell_blk HF.out.blk]; rfl
    have HR2 : Hid (RdAt wc rb v ln bg) := HR.out.below hbc
    have HT2 : Hid (Tabs wc B v ts) := HT.out.below hbc
    have HFr : Hid (Fr B w1 wc) := Fr.ofBelow hbc hBw
    clear c1 c2
    by_cases h2 : kindB kw = 0
    · have HO : Hid (rField ln ws (tbs ts, bg) = .error (ln, 61)) := by rw [Hid, hO1.out, if_pos h2]
      have q2 : (kindB kw == 0) = true := by simpa using h2
      go_wp2_with fail
      refine (refuse_do rb _ ln bg 61 _ HR2.out).mono ?_; rintro e w4 ⟨rfl, rfl⟩
      go_wp2
      rw [HO.out]
      exact ⟨rfl, rfl, HFr.out⟩
    have q2 : (kindB kw == 0) = false := by simpa using h2
    go_wp2_with fail
    refine (refuse_not rb 61 _).mono ?_; rintro e w4 ⟨rfl, rfl⟩
    go_wp2_with fail
    refine (isName_calls nm _ (by omega)).mono ?_; rintro e w5 ⟨rfl, rfl⟩
    cases h3 : nameB nm with
    | false =>
      have HO : Hid (rField ln ws (tbs ts, bg) = .error (ln, 62)) := by rw [Hid, hO1.out, if_neg h2, if_pos h3]
      go_wp2_with fail
      refine (refuse_do rb _ ln bg 62 _ HR2.out).mono ?_; rintro e w4 ⟨rfl, rfl⟩
      go_wp2
      rw [HO.out]
      exact ⟨rfl, rfl, HFr.out⟩
    | true =>
    go_wp2_with fail
    refine (refuse_not rb 62 _).mono ?_; rintro e w6 ⟨rfl, rfl⟩
    obtain ⟨ao, tc, rfl, hg⟩ := HT2.out.form
    have hm := HT2.out.most
    rcases nil_or_snoc ts with rfl | ⟨us, t, rfl⟩
    · have HO : Hid (rField ln ws (tbs [], bg) = .error (ln, 63)) := by rw [Hid, hO1.out, if_neg h2, if_neg (by simp [h3])]; rfl
      go_wp2_with fail
      refine (table_none rb ao tc ln bg _ HR2.out).mono ?_; rintro e w4 ⟨rfl, rfl⟩
      go_wp2
      rw [HO.out]
      exact ⟨rfl, rfl, HFr.out⟩
    obtain ⟨g, rfl, hcap, t0, t1, t2, cs, hgb⟩ := HT2.out.lastAt
    have HO2 : Hid (rField ln ws (tbs (us ++ [t]), bg) = if t.xs.length > 0 then .error (ln, 63) else if placeF t.fs nm ≥ 0 then .error (ln, 64) else if t.fs.length = 16 then .error (ln, 65) else .ok (tbs us ++ [{ t.tb with fs := t.fs ++ [⟨nm, kindB kw⟩] }], bg)) := by
      rw [Hid, hO1.out, if_neg h2, if_neg (by simp [h3]), tbs_snoc]
      simp [TV.tb]
    have hlen : (us ++ [t]).length = us.length + 1 := by simp
    have HR3 : Hid (RdAt w6 rb (.slice (some ⟨g, 0, none⟩) (us.length + 1) tc) ln bg) := by have := HR2.out; rwa [hlen] at this
    have hm1 : us.length < 16 := by rw [hlen] at hm; omega
    have hok := HT2.out.ok t (by simp)
    have hgt : g < w6.heap.size := lt_blk hgb
    have hft : fb < w6.heap.size := lt_blk HF.out.blk
    clear hgb
    go_wp2_with fail
    refine (table_some rb g us.length tc ln bg _ (by omega) hcap HR3.out).mono ?_; rintro e w7 ⟨rfl, m, hw7⟩
    have hb7 : Below w6.heap.size w6 w7 := hw7 ▸ below_draws w6 m
    clear hw7
    have b0' : w7.cell? ⟨fb, 0, none⟩ = some (.string nm) := by rw [hb7.cell (by exact hft)]; exact b0
    have b1' : w7.cell? ⟨fb, 1, none⟩ = some (.int .i64 (kindB kw)) := by rw [hb7.cell (by exact hft)]; exact b1
    have t1' : w7.cell? ⟨g, us.length * 3 + 1, none⟩ = some (.slice t.fa t.fs.length t.fc) := by rw [hb7.cell (by exact hgt)]; exact t1
    have t2' : w7.cell? ⟨g, us.length * 3 + 2, none⟩ = some (.slice t.xa t.xs.length t.xc) := by rw [hb7.cell (by exact hgt)]; exact t2
    have HR7 : Hid (RdAt w7 rb (.slice (some ⟨g, 0, none⟩) (us.length + 1) tc) ln bg) := HR3.out.below hb7
    have HT7 : Hid (Tabs w7 B (.slice (some ⟨g, 0, none⟩) (us ++ [t]).length tc) (us ++ [t])) := HT2.out.below hb7
    have HF7 : Hid (w7.heap[fb]? = some (.cells #[.string nm, .int .i64 (kindB kw)] 40)) := (hb7.block _ hft).trans HF.out.blk
    have HFr7 : Hid (Fr B w1 w7) := HFr.out.trans (Fr.ofBelow hb7 (Nat.le_trans hBw hbc.size))
    have hfm := hok.fmost
    have hft7 : fb < w7.heap.size := lt_blk HF7.out
    have hgt7 : g < w7.heap.size := Nat.lt_of_lt_of_le hgt hb7.size
    clear t0 t1 t2 b0 b1 HR2 HT2 HR3 HF HFr
    by_cases h5 : t.xs.length > 0
    · have HO : Hid (rField ln ws (tbs (us ++ [t]), bg) = .error (ln, 63)) := by rw [Hid, HO2.out, if_pos h5]
      have q5 : decide ((0 : Int) < (t.xs.length : Int)) = true := by simpa using h5
      go_wp2_with fail
      refine (refuse_do rb _ ln bg 63 _ HR7.out).mono ?_; rintro e w8 ⟨rfl, rfl⟩
      go_wp2
      rw [HO.out]
      exact ⟨rfl, rfl, HFr7.out⟩
    have q5 : decide ((0 : Int) < (t.xs.length : Int)) = false := by simpa using h5
    go_wp2_with fail
    refine (refuse_not rb 63 _).mono ?_; rintro e w8 ⟨rfl, rfl⟩
    by_cases h6 : placeF t.fs nm ≥ 0
    · have HO : Hid (rField ln ws (tbs (us ++ [t]), bg) = .error (ln, 64)) := by rw [Hid, HO2.out, if_neg h5, if_pos h6]
      have q6 : decide ((0 : Int) ≤ placeF t.fs nm) = true := by simpa using h6
      go_wp2_with fail
      refine wp_region_held_drew (S := fun W => W.cell? ⟨fb, 0, none⟩ = some (.string nm) ∧ W.cell? ⟨g, us.length * 3 + 1, none⟩ = some (.slice t.fa t.fs.length t.fc)) (by kernel_rfl) ⟨b0', t1'⟩ (fun hHeld => ?_)
      refine wpAnyH_take (i := 0) (v := ?v0) rfl (by kernel_rfl) (by kernel_rfl) (by kernel_rfl) (fun _ _ _ h => h) (Or.inl ⟨by rfl, ?hy0⟩) hHeld ?rest0
      case hy0 => (intro w hSw; (try dsimp only at hSw); go_simp; try with_reducible rfl)
      simp only [Act.put]
      try simp only [List.setIfInBounds_toArray]
      try simp only [List.set_cons_succ]
      try simp only [List.set_cons_zero]
      refine wpAnyH_take (i := 1) (v := ?v1) rfl (by kernel_rfl) (by kernel_rfl) (by kernel_rfl) (fun _ _ _ h => h) (Or.inl ⟨by rfl, ?hy1⟩) hHeld ?rest1
      case hy1 => (intro w hSw; (try dsimp only at hSw); go_simp; try with_reducible rfl)
      simp only [Act.put]
      try simp only [List.setIfInBounds_toArray]
      try simp only [List.set_cons_succ]
      try simp only [List.set_cons_zero]
      refine wpAnyH_take (i := 2) (v := ?v2) rfl (by kernel_rfl) (by kernel_rfl) (by kernel_rfl) (fun _ _ _ h => h) (Or.inl ⟨by rfl, ?hy2⟩) hHeld ?rest2
      case hy2 => (intro w hSw; (try dsimp only at hSw); go_simp; try with_reducible rfl)
      simp only [Act.put]
      try simp only [List.setIfInBounds_toArray]
      try simp only [List.set_cons_succ]
      try simp only [List.set_cons_zero]
      refine wpAnyH_take (i := 3) (v := ?v3) rfl (by kernel_rfl) (by kernel_rfl) (by kernel_rfl) (fun _ _ _ h => h) (Or.inl ⟨by rfl, ?hy3⟩) hHeld ?rest3
      case hy3 => (intro w hSw; (try dsimp only at hSw); go_simp; try with_reducible rfl)
      simp only [Act.put]
      try simp only [List.setIfInBounds_toArray]
      try simp only [List.set_cons_succ]
      try simp only [List.set_cons_zero]
      refine wpAnyH_take (i := 4) (v := ?v4) rfl (by kernel_rfl) (by kernel_rfl) (by kernel_rfl) (fun _ _ _ h => h) (Or.inl ⟨by rfl, ?hy4⟩) hHeld ?rest4
      case hy4 => (intro w hSw; (try dsimp only at hSw); go_simp; try with_reducible rfl)
      simp only [Act.put]
      try simp only [List.setIfInBounds_toArray]
      try simp only [List.set_cons_succ]
      try simp only [List.set_cons_zero]
      refine wpAnyH_take (i := 5) (v := ?v5) rfl (by kernel_rfl) (by kernel_rfl) (by kernel_rfl) (fun _ _ _ h => h) (Or.inl ⟨by rfl, ?hy5⟩) hHeld ?rest5
      case hy5 => (intro w hSw; (try dsimp only at hSw); go_simp; try with_reducible rfl)
      simp only [Act.put]
      try simp only [List.setIfInBounds_toArray]
      try simp only [List.set_cons_succ]
      try simp only [List.set_cons_zero]
      refine wpAnyH_take (i := 6) (v := ?v6) rfl (by kernel_rfl) (by kernel_rfl) (by kernel_rfl) (fun _ _ _ h => h) (Or.inl ⟨by rfl, ?hy6⟩) hHeld ?rest6
      case hy6 => (intro w hSw; (try dsimp only at hSw); go_simp; try with_reducible rfl)
      simp only [Act.put]
      try simp only [List.setIfInBounds_toArray]
      try simp only [List.set_cons_succ]
      try simp only [List.set_cons_zero]
      refine wpAnyH_ready (rs := [7]) (by kernel_rfl) (by simp) ?_
      refine AllReadyH.cons rfl (fun K hK => ?_) AllReadyH.nil
      go_simp
      go_wp2_with fail
      refine (fieldPlace_calls t.fa t.fc t.fs nm _ hfm (by exact (row_cells (HT7.out.tab t (by simp)).fs).below ⟨rfl, rfl, rfl, Nat.le_refl _, fun _ _ => rfl⟩)).mono ?_
      rintro e w9 ⟨rfl, hb9⟩
      have HB9 : Hid (Below w8.heap.size w8 w9) := ⟨hb9.os, hb9.tape, hb9.output, hb9.size, hb9.block⟩
      have q3 : w9.cell? ⟨fb, 0, none⟩ = some (.string nm) ∧ w9.cell? ⟨g, us.length * 3 + 1, none⟩ = some (.slice t.fa t.fs.length t.fc) := ⟨by rw [hb9.cell (by exact hft7)]; exact b0', by rw [hb9.cell (by exact hgt7)]; exact t1'⟩
      clear hb9 hHeld
      dsimp only
      refine hK.out _ _ q3 (fun hHeld => ?_)
      clear hK K
      refine wpAnyH_take (i := 8) (v := ?v8) rfl (by kernel_rfl) (by kernel_rfl) (by kernel_rfl) (fun _ _ _ h => h) (Or.inl ⟨by rfl, ?hy8⟩) hHeld ?rest8
      case hy8 => (intro w hSw; (try dsimp only at hSw); go_simp; try with_reducible rfl)
      simp only [Act.put]
      try simp only [List.setIfInBounds_toArray]
      try simp only [List.set_cons_succ]
      try simp only [List.set_cons_zero]
      refine wpAnyH_ready (rs := [9]) (by kernel_rfl) (by simp) ?_
      refine AllReadyH.cons rfl (fun K hK => ?_) AllReadyH.nil
      go_simp
      go_wp2_with fail
      refine (refuse_do rb _ ln bg 64 _ (HR7.out.below HB9.out)).mono ?_
      rintro e w10 ⟨rfl, rfl⟩
      clear hK
      go_wp2
      rw [HO.out]
      exact ⟨rfl, rfl, HFr7.out.trans (Fr.ofBelow HB9.out (by have := HFr7.out.below.size; omega))⟩
    have q6 : decide ((0 : Int) ≤ placeF t.fs nm) = false := by simpa using h6
    go_wp2_with fail
    go_region_held3 (fun W => W.cell? ⟨fb, 0, none⟩ = some (.string nm) ∧ W.cell? ⟨g, us.length * 3 + 1, none⟩ = some (.slice t.fa t.fs.length t.fc)) (first | (exact q3) | go_keep)
      (first
        | (go_at_call 47
           refine (fieldPlace_calls t.fa t.fc t.fs nm _ hfm (by exact (row_cells (HT7.out.tab t (by simp)).fs).below ⟨rfl, rfl, rfl, Nat.le_refl _, fun _ _ => rfl⟩)).mono ?_
           rintro e w9 ⟨rfl, hb9⟩
           have HB9 : Hid (Below w8.heap.size w8 w9) := ⟨hb9.os, hb9.tape, hb9.output, hb9.size, hb9.block⟩
           have q3 : w9.cell? ⟨fb, 0, none⟩ = some (.string nm) ∧ w9.cell? ⟨g, us.length * 3 + 1, none⟩ = some (.slice t.fa t.fs.length t.fc) := ⟨by rw [hb9.cell (by exact hft7)]; exact b0', by rw [hb9.cell (by exact hgt7)]; exact t1'⟩
           clear hb9)
        | (go_at_call 25
           refine (refuse_not rb 64 _).mono ?_
           rintro e w10 ⟨rfl, rfl⟩))
    have HR9 : Hid (RdAt w10 rb (.slice (some ⟨g, 0, none⟩) (us.length + 1) tc) ln bg) := HR7.out.below HB9.out
    have HT9 : Hid (Tabs w10 B (.slice (some ⟨g, 0, none⟩) (us ++ [t]).length tc) (us ++ [t])) := HT7.out.below HB9.out
    have HF9 : Hid (w10.heap[fb]? = some (.cells #[.string nm, .int .i64 (kindB kw)] 40)) := (HB9.out.block _ hft7).trans HF7.out
    have HFr9 : Hid (Fr B w1 w10) := HFr7.out.trans (Fr.ofBelow HB9.out (by have := HFr7.out.below.size; omega))
    have hft9 : fb < w10.heap.size := lt_blk HF9.out
    have hgt9 : g < w10.heap.size := Nat.lt_of_lt_of_le hgt7 HB9.out.size
    have hb0 : w10.cell? ⟨fb, 0, none⟩ = some (.string nm) := by rw [cell_blk HF9.out]; rfl
    have hb1 : w10.cell? ⟨fb, 1, none⟩ = some (.int .i64 (kindB kw)) := by rw [cell_blk HF9.out]; rfl
    have ht1 : w10.cell? ⟨g, us.length * 3 + 1, none⟩ = some (.slice t.fa t.fs.length t.fc) := q3.2
    have hne1 : some fb ≠ t.fv.ownBlock := fun e => by have := (World.ownsRow.lt (HT.out.tab t (by simp)).fs _ e.symm).2; omega
    have hne2 : some g ≠ t.fv.ownBlock := fun e => rows_ne (HT9.out.tab t (by simp)).fs HT9.out.row (by decide) g rfl e.symm
    have hne3 : (Value.slice (some ⟨g, 0, none⟩) (us ++ [t]).length tc).ownBlock ≠ some fb := row_ne HT9.out.row HF9.out (by decide)
    have hB10 : B ≤ w10.heap.size := by have := HFr9.out.below.size; omega
    clear b0' b1' t1' t2' q3 HR7 HT7 HF7 HFr7
    by_cases h7 : t.fs.length = 16
    · have HO : Hid (rField ln ws (tbs (us ++ [t]), bg) = .error (ln, 65)) := by rw [Hid, HO2.out, if_neg h5, if_neg (by omega), if_pos h7]
      have q7 : ((t.fs.length : Int) == 16) = true := by simp; omega
      clear h7
      go_wp2_with fail
      refine (refuse_do rb _ ln bg 65 _ HR9.out).mono ?_; rintro e w11 ⟨rfl, rfl⟩
      go_wp2
      rw [HO.out]
      exact ⟨rfl, rfl, HFr9.out⟩
    have HO : Hid (rField ln ws (tbs (us ++ [t]), bg) = .ok (tbs us ++ [{ t.tb with fs := t.fs ++ [⟨nm, kindB kw⟩] }], bg)) := by rw [Hid, HO2.out, if_neg h5, if_neg (by omega), if_neg h7]
    have q7 : ((t.fs.length : Int) == 16) = false := by simp; omega
    have hlt16 : t.fs.length < 16 := by omega
    clear h7
    go_wp2_with fail
    refine (refuse_not rb 65 _).mono ?_; rintro e w11 ⟨rfl, rfl⟩
    obtain ⟨i0, hi, hz0, hz1, hz2⟩ := info_of info_field
    go_wp2_with fail
    have hgf : g ≠ fb := fun e => by subst e; exact hne3 rfl
    go_region_law
      (first
        | (refine step_append_lies _ rfl (.tmp 62) (.tmp 64) 32 rfl B 40 i0 _ 2 24 Tryd.underlying32 hi hz0 hz1 hz2 rfl (by decide) (.slice t.fa t.fs.length t.fc) t.fs.length (fcs t.fs) rfl ((HT9.out.tab t (by simp)).fs.alloc _) _ 1 1 [.string nm, .int .i64 (kindB kw)] rfl rfl (cells_new _ _ _) (by simp [Value.oneCell']) (by decide) (by unfold maxLen; omega) (by omega) (by simp; omega) _ rfl ?_
           intro g4 cap4 w4 ho4 hg4 hat4 hlt4
           have HG4 : Hid (Grew w11 w4 (.slice t.fa t.fs.length t.fc) (.slice (some ⟨g4, 0, none⟩) (t.fs.length + 1) cap4)) := grew_lies (o := .cells #[.string nm, .int .i64 (kindB kw)] 40) ⟨hg4.os, hg4.tape, hg4.output, hg4.size, hg4.block⟩ hat4 rfl
           have HO4 : Hid (w4.ownsRow B 40 2 (.slice (some ⟨g4, 0, none⟩) (t.fs.length + 1) cap4) (t.fs.length + 1) (fcs t.fs ++ [.string nm, .int .i64 (kindB kw)])) := ho4
           have q4 : w4.cell? ⟨fb, 0, none⟩ = some (.string nm) ∧ w4.cell? ⟨fb, 1, none⟩ = some (.int .i64 (kindB kw)) := ⟨HG4.out.cell hb0 hne1, HG4.out.cell hb1 hne1⟩
           have ht4 : w4.cell? ⟨g, us.length * 3 + 1, none⟩ = some (.slice t.fa t.fs.length t.fc) := HG4.out.cell ht1 hne2
           have hz4 : w4.frozen? ⟨g, us.length * 3 + 1, none⟩ = false := World.ownsRow.frozenAt (row_grew HT9.out.row HG4.out (rows_ne HT9.out.row (HT9.out.tab t (by simp)).fs (by decide))) _
           clear ho4 hg4 hat4 hlt4))
    all_goals
      have hfr := (HT9.out.tab t (by simp)).fs
      have hTn := HT9.out.addField HO4.out HG4.out (name_size h3) (kind_range h2) hlt16
      have hR4 : RdAt w4 rb (.slice (some ⟨g, 0, none⟩) (us.length + 1) tc) ln bg := (HG4.out.grown.block rb (lt_blk HR9.out) (fun e => row_ne hfr HR9.out (by decide) e.symm)).trans HR9.out
      have hrt := row_grew HT9.out.row HG4.out (rows_ne HT9.out.row hfr (by decide))
      have hgr : g ≠ rb := fun e => by subst e; exact row_ne HT9.out.row HR9.out (by decide) rfl
      have HRn : Hid (RdAt (w4.setCell ⟨g, us.length * 3 + 1, none⟩ (.slice (some ⟨g4, 0, none⟩) (t.fs.length + 1) cap4)) rb (.slice (some ⟨g, 0, none⟩) (us ++ [t]).length tc) ln bg) := by
        rw [hlen]
        exact (heap_setCell_other _ _ _ _ (fun e => hgr (by simpa using e.symm))).trans hR4
      obtain ⟨cs4, hcs4⟩ := row_typed hrt g rfl
      have HFn : Hid (Fr B w1 (w4.setCell ⟨g, us.length * 3 + 1, none⟩ (.slice (some ⟨g4, 0, none⟩) (t.fs.length + 1) cap4))) :=
        HFr9.out.trans ((Fr.grew hfr (Nat.le_refl _) hB10 HG4.out (by decide)).trans (Fr.set hcs4 (World.ownsRow.lt hrt g rfl).1 (by decide) _))
      have HTn : Hid (Tabs _ B _ _) := hTn
      clear hTn hR4 hrt hcs4 hfr
      go_wp2
      go_end0
      rw [HO.out]
      exact ⟨rfl, HFn.out, _, _, by rw [tbs_snoc]; rfl, HRn.out, HTn.out⟩
end Go.Proofs.YtbpmahchinblhaaDoor
