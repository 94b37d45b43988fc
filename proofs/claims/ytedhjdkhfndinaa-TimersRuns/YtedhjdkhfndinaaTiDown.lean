/- Layer 14 (timers): container/heap's down (by gen_tidown.py). -/
import Derived.Test.YtedhjdkhfndinaaTiUp
namespace Go.Proofs.Ytedhjdkhfndinaa
open Go.RowKit
set_option linter.unusedVariables false

theorem kidsOf {k i : Nat} (h0 : 0 < k) (h : par k = i) : k = 2 * i + 1 ∨ k = 2 * i + 2 := by unfold par at h; omega

set_option maxRecDepth 100000 in
set_option maxHeartbeats 2000000 in
theorem down_calls (wb n i0 : Nat) (v : Value) (L : List Tm) (w : World) (hc : w.cell? ⟨wb, 3, none⟩ = some v) (h : PnAt w v L) (hwb : ¬ FT v L wb) (hn : n ≤ L.length) (hi0 : i0 ≤ n) (hm : n ≤ 140737488355328) (hu : HpDn L n i0 i0) :
    Calls Try.prog 30 #[.iface 66 (.pointer (some ⟨wb, 3, none⟩)), .int .i64 (i0 : Int), .int .i64 (n : Int)] w fun e w' => ∃ M b, e = .returned (.bool b) ∧ HpI w wb n v L M w' ∧ (b = true → HpAll M n) ∧ (b = false → HpUp M n i0) := by
  have HWB : Hid (¬ FT v L wb) := hwb
  have HI0 : Hid (HpI w wb n v L L w) := ⟨hc, h, List.Perm.refl _, fun _ _ => rfl, Frm.refl _ _, rfl⟩
  have HU0 : Hid (HpDn L n i0 i0) := hu
  clear hwb hc h hu
  go_enter Try.func30, Try.ntmps30
  go_wp2_with fail
  go_loopw [7, 8, 9, 10] (fun ii _ _ _ wr => ∃ (i : Nat) (M : List Tm), ii = .int .i64 (i : Int) ∧ i0 ≤ i ∧ i ≤ n ∧ Hid (HpI w wb n v L M wr) ∧ Hid (HpDn M n i0 i)) (fun ii _ _ _ _ => n - (intOf ii).toNat)
  case atStart => exact ⟨i0, L, rfl, Nat.le_refl _, hi0, HI0, HU0⟩
  case round =>
    clear HI0 HU0
    obtain ⟨i, M, rfl, hi, hin, HI, HD⟩ := hrel
    by_cases hA : n ≤ 2 * i + 1
    · have hge : (n : Int) ≤ 2 * (i : Int) + 1 := by omega
      have HE : Hid ((i ≠ i0 → HpAll M n) ∧ (i = i0 → HpUp M n i0)) := HD.out.stay (fun q q0 qn qp a b ha hb => by rcases kidsOf q0 qp with rfl | rfl <;> omega)
      by_cases hb : i0 < i
      · have hd : decide ((i0 : Int) < (i : Int)) = true := by simpa using hb
        go_wp2
        go_ret
        exact ⟨M, true, ret_bool (by simp), HI.out, fun _ => HE.out.1 (by omega), fun h => (by cases h)⟩
      · have hd : decide ((i0 : Int) < (i : Int)) = false := by simpa using hb
        go_wp2
        go_ret
        exact ⟨M, false, ret_bool (by simp), HI.out, fun h => (by cases h), fun _ => HE.out.2 (by omega)⟩
    · have hML : n ≤ M.length := by rw [HI.out.len]; exact hn
      obtain ⟨x, hx⟩ : ∃ x, M[i]? = some x := ⟨_, List.getElem?_eq_getElem (by omega)⟩
      obtain ⟨y1, hy1⟩ : ∃ y1, M[2 * i + 1]? = some y1 := ⟨_, List.getElem?_eq_getElem (by omega)⟩
      have HX : Hid (M[i]? = some x) := hx
      have HY1 : Hid (M[2 * i + 1]? = some y1) := hy1
      have hlt : 2 * (i : Int) + 1 < (n : Int) := by omega
      clear hx hy1 hML
      by_cases hB : 2 * i + 2 < n
      · have hlt2 : 2 * (i : Int) + 1 + 1 < (n : Int) := by omega
        obtain ⟨y2, hy2⟩ : ∃ y2, M[2 * i + 2]? = some y2 := ⟨_, List.getElem?_eq_getElem (by rw [HI.out.len]; omega)⟩
        have HY2 : Hid (M[2 * i + 2]? = some y2) := hy2
        clear hy2
        have hmt := meth_less wr wb v HI.out.cell
        have HL := lessX_calls v M (2 * i + 2) (2 * i + 1) y2 y1 wr HI.out.pn HY2.out HY1.out
        have e1 : ((2 * i + 1 : Nat) : Int) = 2 * (i : Int) + 1 := by omega
        have e2 : ((2 * i + 2 : Nat) : Int) = 2 * (i : Int) + 1 + 1 := by omega
        rw [e1, e2] at HL
        go_wp2_with fail
        refine HL.mono ?_
        clear HL hmt
        rintro e w1 ⟨rfl, m1, hw1⟩
        have HI1 : Hid (HpI w wb n v L M w1) := by rw [hw1]; exact HI.out.draws m1
        clear HI hw1
        cases hl1 : ltT y2 y1 with
        | false =>
          obtain ⟨y, HYY⟩ : ∃ y, Hid (y = y1) := ⟨_, rfl⟩
          have HY : Hid (M[2 * i + 1]? = some y) := by rw [HYY.out]; exact HY1.out
          have HS : Hid (∀ q, 0 < q → q < n → par q = i → ∀ z, M[q]? = some z → leT y z) := fun q q0 qn qp z hz => by
            rw [HYY.out]
            rcases kidsOf q0 qp with rfl | rfl
            · obtain rfl := Option.some.inj (hz.symm.trans HY1.out); exact leT_refl _
            · obtain rfl := Option.some.inj (hz.symm.trans HY2.out); exact hl1
          clear HYY HY1 HY2
          have hmt := meth_less w1 wb v HI1.out.cell
          have HL := lessX_calls v M (2 * i + 1) i y x w1 HI1.out.pn HY.out HX.out
          rw [show ((2 * i + 1 : Nat) : Int) = 2 * (i : Int) + 1 from by omega] at HL
          go_wp2_with fail
          refine HL.mono ?_
          clear HL hmt
          rintro e w2 ⟨rfl, m2, hw2⟩
          have HI2 : Hid (HpI w wb n v L M w2) := by rw [hw2]; exact HI1.out.draws m2
          clear HI1 hw2
          cases hl2 : ltT y x with
          | false =>
            have HE : Hid ((i ≠ i0 → HpAll M n) ∧ (i = i0 → HpUp M n i0)) := HD.out.stay (fun q q0 qn qp a b ha hb => by
              obtain rfl := Option.some.inj (ha.symm.trans HX.out)
              exact leT.trans hl2 (HS.out q q0 qn qp b hb))
            by_cases hb : i0 < i
            · have hd : decide ((i0 : Int) < (i : Int)) = true := by simpa using hb
              go_wp2
              go_ret
              exact ⟨M, true, ret_bool (by simp), HI2.out, fun _ => HE.out.1 (by omega), fun h => (by cases h)⟩
            · have hd : decide ((i0 : Int) < (i : Int)) = false := by simpa using hb
              go_wp2
              go_ret
              exact ⟨M, false, ret_bool (by simp), HI2.out, fun h => (by cases h), fun _ => HE.out.2 (by omega)⟩
          | true =>
            have hmt := meth_swap w2 wb v HI2.out.cell
            have HL := swap_calls v M i (2 * i + 1) x y w2 HI2.out.pn HX.out HY.out
            rw [show ((2 * i + 1 : Nat) : Int) = 2 * (i : Int) + 1 from by omega] at HL
            have HD2 : Hid (HpDn (swapL M i (2 * i + 1) x y) n i0 (2 * i + 1)) := HD.out.step hi (by omega) (by omega) (by unfold par; omega) HX.out HY.out hl2 HS.out
            go_wp2_with fail
            refine HL.mono ?_
            clear HL hmt
            rintro e w3 ⟨rfl, hp3, hf3, hs3⟩
            have HI3 : Hid (HpI w wb n v L (swapL M i (2 * i + 1) x y) w3) := HI2.out.swap HX.out HY.out (by omega) (by omega) HWB.out hp3 hf3 hs3
            clear hp3 hf3 hs3 HI2
            go_wp2
            refine ⟨⟨2 * i + 1, _, by simp, by omega, by omega, HI3, HD2⟩, ?_⟩
            simp [intOf]
            omega
        | true =>
          obtain ⟨y, HYY⟩ : ∃ y, Hid (y = y2) := ⟨_, rfl⟩
          have HY : Hid (M[2 * i + 2]? = some y) := by rw [HYY.out]; exact HY2.out
          have HS : Hid (∀ q, 0 < q → q < n → par q = i → ∀ z, M[q]? = some z → leT y z) := fun q q0 qn qp z hz => by
            rw [HYY.out]
            rcases kidsOf q0 qp with rfl | rfl
            · obtain rfl := Option.some.inj (hz.symm.trans HY1.out); exact leT_of_lt hl1
            · obtain rfl := Option.some.inj (hz.symm.trans HY2.out); exact leT_refl _
          clear HYY HY1 HY2
          have hmt := meth_less w1 wb v HI1.out.cell
          have HL := lessX_calls v M (2 * i + 2) i y x w1 HI1.out.pn HY.out HX.out
          rw [show ((2 * i + 2 : Nat) : Int) = 2 * (i : Int) + 1 + 1 from by omega] at HL
          go_wp2_with fail
          refine HL.mono ?_
          clear HL hmt
          rintro e w2 ⟨rfl, m2, hw2⟩
          have HI2 : Hid (HpI w wb n v L M w2) := by rw [hw2]; exact HI1.out.draws m2
          clear HI1 hw2
          cases hl2 : ltT y x with
          | false =>
            have HE : Hid ((i ≠ i0 → HpAll M n) ∧ (i = i0 → HpUp M n i0)) := HD.out.stay (fun q q0 qn qp a b ha hb => by
              obtain rfl := Option.some.inj (ha.symm.trans HX.out)
              exact leT.trans hl2 (HS.out q q0 qn qp b hb))
            by_cases hb : i0 < i
            · have hd : decide ((i0 : Int) < (i : Int)) = true := by simpa using hb
              go_wp2
              go_ret
              exact ⟨M, true, ret_bool (by simp), HI2.out, fun _ => HE.out.1 (by omega), fun h => (by cases h)⟩
            · have hd : decide ((i0 : Int) < (i : Int)) = false := by simpa using hb
              go_wp2
              go_ret
              exact ⟨M, false, ret_bool (by simp), HI2.out, fun h => (by cases h), fun _ => HE.out.2 (by omega)⟩
          | true =>
            have hmt := meth_swap w2 wb v HI2.out.cell
            have HL := swap_calls v M i (2 * i + 2) x y w2 HI2.out.pn HX.out HY.out
            rw [show ((2 * i + 2 : Nat) : Int) = 2 * (i : Int) + 1 + 1 from by omega] at HL
            have HD2 : Hid (HpDn (swapL M i (2 * i + 2) x y) n i0 (2 * i + 2)) := HD.out.step hi (by omega) (by omega) (by unfold par; omega) HX.out HY.out hl2 HS.out
            go_wp2_with fail
            refine HL.mono ?_
            clear HL hmt
            rintro e w3 ⟨rfl, hp3, hf3, hs3⟩
            have HI3 : Hid (HpI w wb n v L (swapL M i (2 * i + 2) x y) w3) := HI2.out.swap HX.out HY.out (by omega) (by omega) HWB.out hp3 hf3 hs3
            clear hp3 hf3 hs3 HI2
            go_wp2
            refine ⟨⟨2 * i + 2, _, by simp; omega, by omega, by omega, HI3, HD2⟩, ?_⟩
            simp [intOf]
            omega
      · have hlt2 : (n : Int) ≤ 2 * (i : Int) + 1 + 1 := by omega
        obtain ⟨y, HYY⟩ : ∃ y, Hid (y = y1) := ⟨_, rfl⟩
        have HY : Hid (M[2 * i + 1]? = some y) := by rw [HYY.out]; exact HY1.out
        have HS : Hid (∀ q, 0 < q → q < n → par q = i → ∀ z, M[q]? = some z → leT y z) := fun q q0 qn qp z hz => by
          rw [HYY.out]
          rcases kidsOf q0 qp with rfl | rfl
          · obtain rfl := Option.some.inj (hz.symm.trans HY1.out); exact leT_refl _
          · omega
        clear HYY HY1
        obtain ⟨w1, HW1⟩ : ∃ w1, Hid (w1 = wr) := ⟨_, rfl⟩
        rw [← HW1.out] at HI
        rw [← HW1.out]
        have HI1 := HI
        clear HI
        have hmt := meth_less w1 wb v HI1.out.cell
        have HL := lessX_calls v M (2 * i + 1) i y x w1 HI1.out.pn HY.out HX.out
        rw [show ((2 * i + 1 : Nat) : Int) = 2 * (i : Int) + 1 from by omega] at HL
        go_wp2_with fail
        refine HL.mono ?_
        clear HL hmt
        rintro e w2 ⟨rfl, m2, hw2⟩
        have HI2 : Hid (HpI w wb n v L M w2) := by rw [hw2]; exact HI1.out.draws m2
        clear HI1 hw2
        cases hl2 : ltT y x with
        | false =>
          have HE : Hid ((i ≠ i0 → HpAll M n) ∧ (i = i0 → HpUp M n i0)) := HD.out.stay (fun q q0 qn qp a b ha hb => by
            obtain rfl := Option.some.inj (ha.symm.trans HX.out)
            exact leT.trans hl2 (HS.out q q0 qn qp b hb))
          by_cases hb : i0 < i
          · have hd : decide ((i0 : Int) < (i : Int)) = true := by simpa using hb
            go_wp2
            go_ret
            exact ⟨M, true, ret_bool (by simp), HI2.out, fun _ => HE.out.1 (by omega), fun h => (by cases h)⟩
          · have hd : decide ((i0 : Int) < (i : Int)) = false := by simpa using hb
            go_wp2
            go_ret
            exact ⟨M, false, ret_bool (by simp), HI2.out, fun h => (by cases h), fun _ => HE.out.2 (by omega)⟩
        | true =>
          have hmt := meth_swap w2 wb v HI2.out.cell
          have HL := swap_calls v M i (2 * i + 1) x y w2 HI2.out.pn HX.out HY.out
          rw [show ((2 * i + 1 : Nat) : Int) = 2 * (i : Int) + 1 from by omega] at HL
          have HD2 : Hid (HpDn (swapL M i (2 * i + 1) x y) n i0 (2 * i + 1)) := HD.out.step hi (by omega) (by omega) (by unfold par; omega) HX.out HY.out hl2 HS.out
          go_wp2_with fail
          refine HL.mono ?_
          clear HL hmt
          rintro e w3 ⟨rfl, hp3, hf3, hs3⟩
          have HI3 : Hid (HpI w wb n v L (swapL M i (2 * i + 1) x y) w3) := HI2.out.swap HX.out HY.out (by omega) (by omega) HWB.out hp3 hf3 hs3
          clear hp3 hf3 hs3 HI2
          go_wp2
          refine ⟨⟨2 * i + 1, _, by simp, by omega, by omega, HI3, HD2⟩, ?_⟩
          simp [intOf]
          omega
end Go.Proofs.Ytedhjdkhfndinaa
