/- The walk of KeysOrder. -/
import Derived.Test.YtehbclliiphglabKOrder
import Derived.Test.YtehbclliiphglabKSame
import Derived.Test.YtehbclliiphglabKFixed
namespace Go.Proofs.Ytehbclliiphglab
open Go.RowKit
set_option linter.unusedVariables false

/-- What KeysOrder asks, for two lists whose keys are there: one of three. -/
theorem order_three {ps qs : List Pt} (hp : ps.all vldB = true) (hq : qs.all vldB = true) (hwp : ∀ p ∈ ps, p.wf) (hwq : ∀ p ∈ qs, p.wf) :
    (cmpL ps qs = -1 ∧ Op.bytesLess (enc false ps) (enc false qs) = true ∧ (enc false ps == enc false qs) = false ∧ sameB ps qs = false) ∨
    (cmpL ps qs = 0 ∧ Op.bytesLess (enc false ps) (enc false qs) = false ∧ (enc false ps == enc false qs) = true ∧ sameB ps qs = true) ∨
    (cmpL ps qs = 1 ∧ Op.bytesLess (enc false ps) (enc false qs) = false ∧ (enc false ps == enc false qs) = false ∧ sameB ps qs = false) := by
  have o := key_order ps qs hp hq hwp hwq
  obtain ⟨s1, s2⟩ := key_same hp hq hwp hwq
  have r := cmpL_range ps qs
  have hno : ¬ cmpL ps qs = 0 → (enc false ps == enc false qs) = false ∧ sameB ps qs = false := by
    intro h
    have hne : ¬ ps = qs := fun e => h (s2.2 e)
    exact ⟨by rw [beq_eq_false_iff_ne]; exact fun e => hne (s1.1 e), (sameB_ne hne).symm⟩
  rcases (show cmpL ps qs = -1 ∨ cmpL ps qs = 0 ∨ cmpL ps qs = 1 by omega) with h | h | h
  · exact .inl ⟨h, by rw [o, h]; rfl, hno (by omega)⟩
  · refine .inr (.inl ⟨h, by rw [o, h]; rfl, ?_, (sameB_iff _ _).2 (s2.1 h)⟩)
    rw [beq_iff_eq]; exact s1.2 (s2.1 h)
  · exact .inr (.inr ⟨h, by rw [o, h]; rfl, hno (by omega)⟩)

set_option maxHeartbeats 1000000 in
theorem order_walk (ao bo : Option Addr) (cap cap2 : Nat) (ps qs : List Pt) (w : World) (hl : ps.length ≤ 4398046511100) (hl2 : qs.length ≤ 4398046511100) (hp : PartsAt w ao ps) (hq : PartsAt w bo qs) :
    Calls Try.prog 3 #[.slice ao ps.length cap, .slice bo qs.length cap2] w fun e w' => e = .returned (.bool true) ∧ Below w.heap.size w w' := by
  have HW : Hid (∀ p ∈ ps, p.wf) := hp.wf
  have HW2 : Hid (∀ p ∈ qs, p.wf) := hq.wf
  go_enter Try.func3, Try.ntmps3
  go_wp2_with fail
  refine (keysFixed_calls w).mono ?_
  rintro e w1 ⟨rfl, hb1⟩
  go_wp2_with fail
  refine (copied_calls ao cap ps w1 hl (hp.below hb1)).mono ?_
  rintro e w2 ⟨v2, rfl, ho2, hb2⟩
  have hb3 : Below w.heap.size w w2 := hb1.trans (hb2.mono hb1.size)
  obtain ⟨ao2, cap2', hsh⟩ := ho2.shape
  subst hsh
  have hp2 := ho2.parts HW.out
  go_wp2_with fail
  refine (encode_calls ao2 cap2' ps w2 (by omega) hp2).mono ?_
  rintro e w3 ⟨rfl, hb4⟩
  have hb5 : Below w.heap.size w w3 := hb3.trans (hb4.mono hb3.size)
  clear hp2 ho2 hb1 hb2 hb3 hb4
  go_wp2_with fail
  refine (copied_calls bo cap2 qs w3 hl2 (hq.below hb5)).mono ?_
  rintro e w4 ⟨v4, rfl, ho4, hb6⟩
  have hb7 : Below w.heap.size w w4 := hb5.trans (hb6.mono hb5.size)
  obtain ⟨ao4, cap4, hsh⟩ := ho4.shape
  subst hsh
  have hp4 := ho4.parts HW2.out
  go_wp2_with fail
  refine (encode_calls ao4 cap4 qs w4 (by omega) hp4).mono ?_
  rintro e w5 ⟨rfl, hb8⟩
  have hb9 : Below w.heap.size w w5 := hb7.trans (hb8.mono hb7.size)
  clear hp4 ho4 hb5 hb6 hb7 hb8
  rcases encAns_err false ps with he | he
  · obtain ⟨hv, hlen, h1⟩ := encAns_ok he
    rw [he, h1]
    clear he h1 hlen
    rcases encAns_err false qs with hf | hf
    · obtain ⟨hv2, hlen2, h2⟩ := encAns_ok hf
      rw [hf, h2]
      clear hf h2 hlen2
      have HO := (show Hid _ from order_three hv hv2 HW.out HW2.out)
      have HA : Hid (cmpAns ps qs = (cmpL ps qs, 0)) := by
        show _ = _
        unfold cmpAns; rw [hv, hv2]; rfl
      clear hv hv2
      go_wp2_with fail
      refine (copied_calls ao cap ps w5 hl (hp.below hb9)).mono ?_
      rintro e w6 ⟨v6, rfl, ho6, hb10⟩
      have hb11 : Below w.heap.size w w6 := hb9.trans (hb10.mono hb9.size)
      obtain ⟨ao6, cap6, hsh⟩ := ho6.shape
      subst hsh
      go_wp2_with fail
      refine (copied_calls bo cap2 qs w6 hl2 (hq.below hb11)).mono ?_
      rintro e w7 ⟨v7, rfl, ho7, hb12⟩
      have hb13 : Below w.heap.size w w7 := hb11.trans (hb12.mono hb11.size)
      obtain ⟨ao7, cap7, hsh⟩ := ho7.shape
      subst hsh
      have hpa := (ho6.below hb12).parts HW.out
      have hpb := ho7.parts HW2.out
      go_wp2_with fail
      refine (compare_calls ao6 ao7 cap6 cap7 ps qs w7 (by omega) (by omega) hpa hpb).mono ?_
      rintro e w8 ⟨rfl, hb14⟩
      rw [HA.out]
      have hb15 : Below w.heap.size w w8 := hb13.trans (hb14.mono hb13.size)
      have hq8 := hq.below hb15
      have hp8 := hp.below hb15
      clear hpa hpb ho6 ho7 hb9 hb10 hb11 hb12 hb13 hb14 hp hq
      rcases HO.out with ⟨g1, g2, g3, g4⟩ | ⟨g1, g2, g3, g4⟩ | ⟨g1, g2, g3, g4⟩
      all_goals
        rw [g1]
        clear g1 HO
        have G4 : Hid _ := g4
        clear g4
        go_wp2_with fail
        refine (same_calls ao bo cap cap2 ps qs w8 (by omega) (by omega) hp8 hq8).mono ?_
        rintro e w9 ⟨rfl, hb16⟩
        rw [G4.out]
        have hb17 : Below w.heap.size w w9 := hb15.trans (hb16.mono hb15.size)
        go_wp2
        all_goals go_light
        all_goals go_ret
        all_goals exact ⟨by simp, hb17⟩
    · have hf2 : ((encAns false qs).2 != 0) = true := by simpa [bne] using hf
      clear hf
      go_wp2
      all_goals go_light
      all_goals go_ret
      all_goals exact ⟨rfl, hb9⟩
  · have he2 : ((encAns false ps).2 != 0) = true := by simpa [bne] using he
    clear he
    go_wp2
    all_goals go_light
    all_goals go_ret
    all_goals exact ⟨rfl, hb9⟩
end Go.Proofs.Ytehbclliiphglab
