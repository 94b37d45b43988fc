/- Layer 6 (schema): the document's Form of an index's line. -/
import Derived.Test.YtbpmahchinblhaaDoorSRForm
namespace Go.Proofs.YtbpmahchinblhaaDoor
open Go.RowKit
set_option linter.unusedVariables false

set_option maxRecDepth 100000 in
set_option maxHeartbeats 2000000 in
theorem rform_index (g cap : Nat) (ws : List ByteArray) (w : World) (h0 : 0 < ws.length) (hcap : ws.length ≤ cap) (hl : ws.length ≤ 100000) (hc : CellsAt w (some ⟨g, 0, none⟩) (ws.map Value.string)) (hs : ∀ x ∈ ws, x.size ≤ 8192) (hw : ws[0] = indexW) :
    Calls Tryd.prog 10 #[.slice (some ⟨g, 0, none⟩) ws.length cap] w fun e w' => e = .returned (.int .i64 (formP ws)) ∧ Below w.heap.size w w' := by
  have hcell : ∀ k (h : k < ws.length), w.cell? ⟨g, k, none⟩ = some (.string ws[k]) := fun k h => by
    obtain ⟨b1, o1, e, c⟩ := hc.str k h
    simp only [Option.some.injEq, Addr.mk.injEq] at e
    obtain ⟨rfl, rfl, _⟩ := e
    simpa using c
  have c0 := hcell 0 h0
  rw [hw] at c0
  have HW : Hid (ws.getD 0 ⟨#[]⟩ = indexW) := by rw [Hid, word_at h0]; exact hw
  have HW' : Hid (¬ ws.getD 0 ⟨#[]⟩ = tableW) := fun h => by
    rw [HW.out] at h
    have := congrArg (fun x => x.data.toList) h
    simp [indexW, tableW] at this
  have HW2 : Hid (¬ ws.getD 0 ⟨#[]⟩ = fieldW) := fun h => by
    rw [HW.out] at h
    have := congrArg (fun x => x.data.toList) h
    simp [indexW, fieldW] at this
  have u0 : indexW.toList = [105, 110, 100, 101, 120] := by rw [ByteArray.toList_eq]; rfl
  by_cases h3 : ws.length < 3
  · have HP : Hid (formP ws = 61) := by
      show _ = _
      unfold formP
      rw [if_neg HW'.out, if_neg HW2.out, if_pos HW.out, if_pos h3]
    have q : (ws.length : Int) < 3 := by omega
    clear hw hc hcell
    go_enter Tryd.func10, Tryd.ntmps10
    go_wp2
    go_ret
    rw [HP.out]
    exact ⟨rfl, Below.refl _ _⟩
  · have c1 := hcell 1 (by omega)
    have c2 := hcell 2 (by omega)
    have HN1 : Hid (ws[1].size ≤ 8192 ∧ ws[2].size ≤ 8192) := ⟨hs _ (List.getElem_mem _), hs _ (List.getElem_mem _)⟩
    have HP : Hid (formP ws = if (flagsW (ws.drop 3)).2.length > 0 then 61 else if nameB ws[1] = false ∨ (wsOf ws[2] 44).all nameB = false then 62 else 0) := by
      show _ = _
      unfold formP
      rw [if_neg HW'.out, if_neg HW2.out, if_pos HW.out, if_neg h3, word_at (by omega : 1 < ws.length), word_at (by omega : 2 < ws.length)]
    obtain ⟨wl, hwl⟩ : ∃ wl, ws.length = wl + 3 := ⟨ws.length - 3, by omega⟩
    have hdl : (ws.drop 3).length = wl := by simp; omega
    have hcd : CellsAt w (some ⟨g, 3, none⟩) ((ws.drop 3).map Value.string) := by
      intro hne
      refine ⟨g, 3, rfl, fun j u hj => ?_⟩
      rw [List.getElem?_map] at hj
      obtain ⟨x, hx, rfl⟩ := Option.map_eq_some_iff.1 hj
      rw [List.getElem?_drop] at hx
      obtain ⟨hlt, rfl⟩ := List.getElem?_eq_some_iff.1 hx
      exact hcell (3 + j) hlt
    have hsl := drop3_run g wl cap (by omega)
    obtain ⟨ao5, c5, e5, hc5, hcap5⟩ := restV_form (w := w) (wl := wl) (cap := cap) (show ((ws.drop 3).map Value.string).length = wl by rw [List.length_map]; exact hdl) (by omega) hcd
    rw [e5] at hsl
    have hfl := rflags_calls ao5 c5 (ws.drop 3) w (by omega) hc5
    rw [hdl] at hfl
    have HFL : Hid _ := hfl
    obtain ⟨n1, hn1⟩ : ∃ n1, n1 = ws[1] := ⟨_, rfl⟩
    obtain ⟨n2, hn2⟩ : ∃ n2, n2 = ws[2] := ⟨_, rfl⟩
    rw [← hn1, ← hn2] at HN1 HP
    rw [← hn1] at c1
    rw [← hn2] at c2
    rw [hwl]
    obtain ⟨F, hF⟩ : ∃ F, F = flagsW (ws.drop 3) := ⟨_, rfl⟩
    rw [← hF] at HP hfl
    clear HFL hF hn1 hn2 hw hc hcell hs hcd e5 hc5 h3 h0 HW HW' HW2 hdl
    have hwl3 : ¬ ((wl : Int) + 3 < 3) := by omega
    by_cases hz : F.2.length = 0
    · have qz : decide (F.2.length = 0) = true := decide_eq_true hz
      rw [qz] at hfl
      rw [if_neg (by omega)] at HP
      have HFL : Hid (Calls Tryd.prog 21 #[.slice ao5 wl c5] w fun e w' => e = .returned (.tuple #[.bool F.1.1, .bool F.1.2.1, .bool F.1.2.2, .bool true]) ∧ w' = w) := hfl
      clear hfl qz
      have HSp : Hid (Calls Tryd.prog 9 #[.string n2, .int .u8 44] w fun e w' => ∃ v, e = .returned v ∧ w'.ownsRow w.heap.size 9 1 v (wsOf n2 44).length ((wsOf n2 44).map Value.string) ∧ Below w.heap.size w w') := rsplit_calls n2 44 w HN1.out.2
      go_enter Tryd.func10, Tryd.ntmps10
      go_wp2_with fail
      refine HFL.out.mono ?_
      clear HFL
      rintro e w' ⟨rfl, hw'⟩
      rw [hw']
      clear hw'
      go_wp2_with fail
      refine HSp.out.mono ?_
      clear HSp
      rintro e w1 ⟨v, rfl, hr, hb⟩
      obtain ⟨ao, ca, rfl, hao⟩ := row_forms hr
      have HR : Hid (CellsAt w1 ao ((wsOf n2 44).map Value.string)) := row_cells hr
      have HZ : Hid (∀ k (h : k < (wsOf n2 44).length), (wsOf n2 44)[k].size ≤ 8192) := fun k h => by have := wsOf_size n2 44 _ (List.getElem_mem h); have := HN1.out.2; omega
      have hmost := wsOf_most n2 44
      have hn28 := HN1.out.2
      have d1 : w1.cell? ⟨g, 1, none⟩ = some (.string n1) := by rw [hb.cell (by exact World.block_lt_of_cell? w _ c1)]; exact c1
      have HB : Hid (Below w.heap.size w w1) := hb
      obtain ⟨ns, hns⟩ : ∃ ns, ns = wsOf n2 44 := ⟨_, rfl⟩
      rw [← hns] at HR HZ HP hmost ⊢
      clear hr hao hb hns c0 c1 c2 hsl
      go_wp2
      go_loop [8, 49] (fun y x => ∃ k : Nat, k ≤ ns.length ∧ x = .int .i64 k ∧ Hid (allTo nameB ns k)) (fun _ x => ns.length - (intOf x).toNat)
      case atStart => exact ⟨0, Nat.zero_le _, rfl, fun i h h' => by omega⟩
      case round =>
        obtain ⟨k, hk, rfl, HA⟩ := hrel
        by_cases hlt : k < ns.length
        · obtain ⟨b, off, h1, m0⟩ := HR.out.str k hlt
          subst h1
          have hn := rnamed_calls ns[k] w1 (by have := HZ.out k hlt; omega)
          cases hb : nameB ns[k] with
          | true =>
            have HA2 : Hid (allTo nameB ns (k + 1)) := HA.out.succ hlt hb
            rw [hb] at hn
            clear hb HA
            go_wp2_with (go_at_call 22; refine hn.mono ?_; rintro e w' ⟨rfl, rfl⟩)
            go_round
            case rel => exact ⟨k + 1, by omega, by go_num, HA2⟩
            case measure => simp [intOf]; omega
          | false =>
            have HE : Hid (false = ns.all nameB) := all_no hlt hb
            rw [hb] at hn
            clear hb HA
            go_wp2_with (go_at_call 22; refine hn.mono ?_; rintro e w' ⟨rfl, rfl⟩)
            go_ret
            rw [HP.out, if_pos (.inr HE.out.symm)]
            exact ⟨rfl, HB.out⟩
        · have HE : Hid (true = ns.all nameB) := HA.out.all (by omega)
          have hn := rnamed_calls n1 w1 (by have := HN1.out.1; omega)
          cases hb : nameB n1 with
          | true =>
            rw [hb] at hn
            have HP2 : Hid (formP ws = 0) := by
              rw [Hid, HP.out, if_neg]
              rintro (h | h)
              · rw [hb] at h; cases h
              · rw [← HE.out] at h; cases h
            clear hb HA
            go_wp2_with (go_at_call 22; refine hn.mono ?_; rintro e w' ⟨rfl, rfl⟩)
            go_ret
            rw [HP2.out]
            exact ⟨rfl, HB.out⟩
          | false =>
            rw [hb] at hn
            have HP2 : Hid (formP ws = 62) := by rw [Hid, HP.out, if_pos (.inl hb)]
            clear hb HA
            go_wp2_with (go_at_call 22; refine hn.mono ?_; rintro e w' ⟨rfl, rfl⟩)
            go_ret
            rw [HP2.out]
            exact ⟨rfl, HB.out⟩
    · have qz : decide (F.2.length = 0) = false := decide_eq_false hz
      rw [qz] at hfl
      rw [if_pos (by omega)] at HP
      go_enter Tryd.func10, Tryd.ntmps10
      go_wp2_with (go_at_call 21; refine hfl.mono ?_; rintro e w' ⟨rfl, rfl⟩)
      go_ret
      rw [HP.out]
      exact ⟨rfl, Below.refl _ _⟩
end Go.Proofs.YtbpmahchinblhaaDoor
