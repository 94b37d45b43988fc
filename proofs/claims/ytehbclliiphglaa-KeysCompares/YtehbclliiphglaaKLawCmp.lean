/- The walk of KeysCompares. -/
import Derived.Test.YtehbclliiphglaaKRCompare
import Derived.Test.YtehbclliiphglaaKFixed
namespace Go.Proofs.Ytehbclliiphglaa
open Go.RowKit
set_option linter.unusedVariables false

theorem u8_cases (a b : UInt8) : a < b ∨ a = b ∨ b < a := by
  rcases Nat.lt_trichotomy a.toNat b.toNat with h | h | h
  · exact .inl (UInt8.lt_iff_toNat_lt.2 h)
  · exact .inr (.inl (UInt8.toNat_inj.1 h))
  · exact .inr (.inr (UInt8.lt_iff_toNat_lt.2 h))
theorem u8_not_lt {a b : UInt8} (h : a < b) : ¬ b < a ∧ a ≠ b := by
  have h1 := UInt8.lt_iff_toNat_lt.1 h
  refine ⟨fun h2 => ?_, fun e => ?_⟩
  · have := UInt8.lt_iff_toNat_lt.1 h2; omega
  · subst e; omega

theorem bytesLess_total (a b : List UInt8) : (Op.bytesLess a b = true ∧ Op.bytesLess b a = false ∧ a ≠ b) ∨ (a = b ∧ Op.bytesLess a b = false) ∨ (Op.bytesLess a b = false ∧ Op.bytesLess b a = true ∧ a ≠ b) := by
  induction a generalizing b with
  | nil =>
    cases b with
    | nil => exact .inr (.inl ⟨rfl, rfl⟩)
    | cons d b => exact .inl ⟨rfl, rfl, by simp⟩
  | cons c a ih =>
    cases b with
    | nil => exact .inr (.inr ⟨rfl, rfl, by simp⟩)
    | cons d b =>
      rcases u8_cases c d with h | h | h
      · obtain ⟨h1, h2⟩ := u8_not_lt h
        refine .inl ⟨by simp [Op.bytesLess, h], ?_, by simp [h2]⟩
        simp [Op.bytesLess, h1]
        intro e; exact absurd e.symm h2
      · subst h
        rcases ih b with ⟨h1, h2, h3⟩ | ⟨h1, h2⟩ | ⟨h1, h2, h3⟩
        · exact .inl ⟨by simp [Op.bytesLess, h1], by simp [Op.bytesLess, h2], by simp [h3]⟩
        · subst h1; exact .inr (.inl ⟨rfl, by simp [Op.bytesLess, h2]⟩)
        · exact .inr (.inr ⟨by simp [Op.bytesLess, h1], by simp [Op.bytesLess, h2], by simp [h3]⟩)
      · obtain ⟨h1, h2⟩ := u8_not_lt h
        refine .inr (.inr ⟨?_, by simp [Op.bytesLess, h], by simp; intro e; exact absurd e.symm h2⟩)
        simp [Op.bytesLess, h1]
        intro e; exact absurd e.symm h2

theorem cmpS_neg (a b : List UInt8) : cmpS b a = - cmpS a b := by
  rcases bytesLess_total a b with ⟨h1, h2, h3⟩ | ⟨h1, h2⟩ | ⟨h1, h2, h3⟩
  · simp [cmpS, h1, h2, Ne.symm h3]
  · subst h1; simp [cmpS, h2]
  · simp [cmpS, h1, h2, h3]
theorem cmpI_neg (a b : Int) : cmpI b a = - cmpI a b := by
  unfold cmpI
  repeat' split
  all_goals omega
theorem cmpS_range (a b : List UInt8) : -1 ≤ cmpS a b ∧ cmpS a b ≤ 1 := by unfold cmpS; repeat' split <;> omega
theorem cmpI_range (a b : Int) : -1 ≤ cmpI a b ∧ cmpI a b ≤ 1 := by unfold cmpI; repeat' split <;> omega
theorem cmpP_neg (p q : Pt) : cmpP q p = - cmpP p q := by
  unfold cmpP
  by_cases h : p.k = q.k
  · have h1 : (q.k == p.k) = true := by simpa using h.symm
    have h2 : (p.k == q.k) = true := by simpa using h
    rw [h1, h2]
    simp only [if_true]
    rw [h]
    split
    · exact cmpS_neg _ _
    · exact cmpI_neg _ _
  · have h1 : (q.k == p.k) = false := by simpa using fun e => h e.symm
    have h2 : (p.k == q.k) = false := by simpa using h
    rw [h1, h2]
    exact cmpI_neg _ _
theorem cmpP_range (p q : Pt) : -1 ≤ cmpP p q ∧ cmpP p q ≤ 1 := by
  unfold cmpP
  repeat' split
  · exact cmpS_range _ _
  · exact cmpI_range _ _
  · exact cmpI_range _ _
theorem ptEq_comm (p q : Pt) : ptEq p q = ptEq q p := by
  rw [Bool.eq_iff_iff, ptEq_iff, ptEq_iff]; exact eq_comm
theorem cmpL_neg (ps qs : List Pt) : cmpL qs ps = - cmpL ps qs := by
  induction ps generalizing qs with
  | nil => cases qs <;> simp [cmpL]
  | cons p ps ih =>
    cases qs with
    | nil => simp [cmpL]
    | cons q qs =>
      rw [cmpL, cmpL, ptEq_comm q p]
      split
      · exact ih qs
      · exact cmpP_neg p q
theorem cmpL_range (ps qs : List Pt) : -1 ≤ cmpL ps qs ∧ cmpL ps qs ≤ 1 := by
  induction ps generalizing qs with
  | nil => cases qs <;> simp [cmpL]
  | cons p ps ih =>
    cases qs with
    | nil => simp [cmpL]
    | cons q qs =>
      rw [cmpL]
      split
      · exact ih qs
      · exact cmpP_range p q
theorem cmpAns_neg (ps qs : List Pt) : cmpAns qs ps = (- (cmpAns ps qs).1, (cmpAns ps qs).2) := by
  unfold cmpAns
  rw [Bool.and_comm]
  split
  · simp [cmpL_neg ps qs]
  · rfl
theorem cmpAns_range (ps qs : List Pt) : -1 ≤ (cmpAns ps qs).1 ∧ (cmpAns ps qs).1 ≤ 1 := by
  unfold cmpAns
  split
  · exact cmpL_range ps qs
  · simp

set_option maxHeartbeats 1000000 in
theorem compares_walk (ao bo : Option Addr) (cap cap2 : Nat) (ps qs : List Pt) (w : World) (hl : ps.length ≤ 4398046511100) (hl2 : qs.length ≤ 4398046511100) (hp : PartsAt w ao ps) (hq : PartsAt w bo qs) :
    Calls Try.prog 8 #[.slice ao ps.length cap, .slice bo qs.length cap2] w fun e w' => e = .returned (.bool true) ∧ Below w.heap.size w w' := by
  have HW : Hid (∀ p ∈ ps, p.wf) := hp.wf
  have HW2 : Hid (∀ p ∈ qs, p.wf) := hq.wf
  have HN : Hid (cmpAns qs ps = (- (cmpAns ps qs).1, (cmpAns ps qs).2)) := cmpAns_neg ps qs
  have hrg := cmpAns_range ps qs
  obtain ⟨A, hA⟩ : ∃ A, A = cmpAns ps qs := ⟨_, rfl⟩
  rw [← hA] at hrg HN
  have HA : Hid (cmpAns ps qs = A) := hA.symm
  clear hA
  go_enter Try.func8, Try.ntmps8
  go_wp2_with fail
  refine (keysFixed_calls w).mono ?_
  rintro e w1 ⟨rfl, hb1⟩
  have hp1 := hp.below hb1
  have hq1 := hq.below hb1
  go_wp2_with fail
  refine (rcompare_calls ao bo cap cap2 ps qs w1 (by omega) (by omega) hp1 hq1).mono ?_
  rintro e w2 ⟨rfl, hb2⟩
  rw [HA.out]
  have hb3 : Below w.heap.size w w2 := hb1.trans (hb2.mono hb1.size)
  go_wp2_with fail
  refine (copied_calls ao cap ps w2 hl (hp.below hb3)).mono ?_
  rintro e w3 ⟨v3, rfl, ho3, hb4⟩
  have hb5 : Below w.heap.size w w3 := hb3.trans (hb4.mono hb3.size)
  obtain ⟨ao3, cap3, hsh⟩ := ho3.shape
  subst hsh
  go_wp2_with fail
  refine (copied_calls bo cap2 qs w3 hl2 (hq.below hb5)).mono ?_
  rintro e w4 ⟨v4, rfl, ho4, hb6⟩
  have hb7 : Below w.heap.size w w4 := hb5.trans (hb6.mono hb5.size)
  obtain ⟨ao4, cap4, hsh⟩ := ho4.shape
  subst hsh
  have hpa := (ho3.below hb6).parts HW.out
  have hpb := ho4.parts HW2.out
  go_wp2_with fail
  refine (compare_calls ao3 ao4 cap3 cap4 ps qs w4 (by omega) (by omega) hpa hpb).mono ?_
  rintro e w5 ⟨rfl, hb8⟩
  rw [HA.out]
  have hb9 : Below w.heap.size w w5 := hb7.trans (hb8.mono hb7.size)
  clear hpa hpb ho3 ho4 hb1 hb2 hb3 hb4 hb5 hb6 hb7 hb8 hp1 hq1
  go_wp2_with fail
  refine (copied_calls bo cap2 qs w5 hl2 (hq.below hb9)).mono ?_
  rintro e w6 ⟨v6, rfl, ho6, hb10⟩
  have hb11 : Below w.heap.size w w6 := hb9.trans (hb10.mono hb9.size)
  obtain ⟨ao6, cap6, hsh⟩ := ho6.shape
  subst hsh
  go_wp2_with fail
  refine (copied_calls ao cap ps w6 hl (hp.below hb11)).mono ?_
  rintro e w7 ⟨v7, rfl, ho7, hb12⟩
  have hb13 : Below w.heap.size w w7 := hb11.trans (hb12.mono hb11.size)
  obtain ⟨ao7, cap7, hsh⟩ := ho7.shape
  subst hsh
  have hpa := (ho6.below hb12).parts HW2.out
  have hpb := ho7.parts HW.out
  go_wp2_with fail
  refine (compare_calls ao6 ao7 cap6 cap7 qs ps w7 (by omega) (by omega) hpa hpb).mono ?_
  rintro e w8 ⟨rfl, hb14⟩
  rw [HN.out]
  have hb15 : Below w.heap.size w w8 := hb13.trans (hb14.mono hb13.size)
  go_wp2
  all_goals go_light
  all_goals go_ret
  all_goals exact ⟨by simp, hb15⟩
end Go.Proofs.Ytehbclliiphglaa
