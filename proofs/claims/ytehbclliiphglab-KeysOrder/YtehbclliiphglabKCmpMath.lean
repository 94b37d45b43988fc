/- The order of lists of parts, in plain lists. -/
import Derived.Test.YtehbclliiphglabKCompare
import Derived.Test.YtehbclliiphglabKPiece
namespace Go.Proofs.Ytehbclliiphglab
open Go.RowKit
set_option linter.unusedVariables false

theorem bytesLess_irrefl (l : List UInt8) : Op.bytesLess l l = false := by
  induction l with
  | nil => rfl
  | cons c l ih => simp [Op.bytesLess, ih]

/-- Does the document put p ahead of q? -/
def ahead (p q : Pt) : Bool := decide (p.k < q.k) || (p.k == q.k && (Op.bytesLess p.t.toList q.t.toList || decide (p.n < q.n)))

theorem ptEq_false {p q : Pt} (h : p ≠ q) : ptEq p q = false := by
  cases he : ptEq p q with
  | false => rfl
  | true => exact absurd ((ptEq_iff p q).1 he) h

theorem cmpP_ahead {p q : Pt} (hp : vldB p = true) (hq : vldB q = true) (h : ahead p q = true) : ptEq p q = false ∧ cmpP p q = -1 := by
  unfold ahead at h
  simp only [Bool.or_eq_true, decide_eq_true_eq, Bool.and_eq_true, beq_iff_eq] at h
  refine ⟨ptEq_false fun e => ?_, ?_⟩
  · subst e
    rcases h with h | ⟨_, h | h⟩
    · omega
    · rw [bytesLess_irrefl] at h; exact absurd h (by decide)
    · omega
  · rcases h with h | ⟨hk, h⟩
    · have hne : (p.k == q.k) = false := by simpa using (show ¬ p.k = q.k by omega)
      simp [cmpP, hne, cmpI, h]
    · have hkb : (p.k == q.k) = true := by simpa using hk
      rcases vld_cases hp with ⟨h1, h2⟩ | ⟨h1, h2⟩ | ⟨h1, h2, h3⟩ <;> rcases vld_cases hq with ⟨g1, g2⟩ | ⟨g1, g2⟩ | ⟨g1, g2, g3⟩
      all_goals try omega
      · have hl : Op.bytesLess p.t.toList q.t.toList = true := by
          rcases h with h | h
          · exact h
          · omega
        simp [cmpP, h1, g1, cmpS, hl]
      · have hn : p.n < q.n := by
          rcases h with h | h
          · rw [h2, g2] at h; exact absurd h (by decide)
          · exact h
        simp [cmpP, h1, g1, cmpI, hn]
      · have hn : p.n < q.n := by
          rcases h with h | h
          · rw [h2, g2] at h; exact absurd h (by decide)
          · exact h
        simp [cmpP, h1, g1, cmpI, hn]

theorem cmpP_behind {p q : Pt} (hp : vldB p = true) (hq : vldB q = true) (h : ahead p q = false) (hne : p ≠ q) : cmpP p q = 1 := by
  unfold ahead at h
  simp only [Bool.or_eq_false_iff, decide_eq_false_iff_not, Bool.and_eq_false_iff] at h
  obtain ⟨h0, h⟩ := h
  by_cases hk : p.k = q.k
  · have hkb : (p.k == q.k) = true := by simpa using hk
    rw [hkb] at h
    simp only [Bool.true_eq_false, false_or] at h
    obtain ⟨hl, hn⟩ := h
    rcases vld_cases hp with ⟨h1, h2⟩ | ⟨h1, h2⟩ | ⟨h1, h2, h3⟩ <;> rcases vld_cases hq with ⟨g1, g2⟩ | ⟨g1, g2⟩ | ⟨g1, g2, g3⟩
    all_goals try omega
    · have ht : (p.t.toList == q.t.toList) = false := by
        rw [beq_eq_false_iff_ne]
        intro e
        exact hne ((ptEq_iff p q).1 (by simp [ptEq, h1, g1, h2, g2, e]))
      simp [cmpP, h1, g1, cmpS, hl, ht]
    · have hn2 : q.n < p.n := by
        have : p.n ≠ q.n := fun e => hne ((ptEq_iff p q).1 (by simp [ptEq, h1, g1, h2, g2, e]))
        omega
      simp [cmpP, h1, g1, cmpI, hn, hn2]
    · have hn2 : q.n < p.n := by
        have : p.n ≠ q.n := fun e => hne ((ptEq_iff p q).1 (by simp [ptEq, h1, g1, h2, g2, e]))
        omega
      simp [cmpP, h1, g1, cmpI, hn, hn2]
  · have hkb : (p.k == q.k) = false := by simpa using hk
    simp [cmpP, hkb, cmpI, h0]
    omega

theorem u8_cases (a b : UInt8) : a < b ∨ a = b ∨ b < a := by
  rcases Nat.lt_trichotomy a.toNat b.toNat with h | h | h
  · exact .inl (UInt8.lt_iff_toNat_lt.2 h)
  · exact .inr (.inl (UInt8.toNat_inj.1 h))
  · exact .inr (.inr (UInt8.lt_iff_toNat_lt.2 h))
theorem u8_not_lt {a b : UInt8} (h : a < b) : ¬ b < a ∧ a ≠ b := by
  have h1 := UInt8.lt_iff_toNat_lt.1 h
  refine ⟨fun h2 => ?_, fun e => ?_⟩
  · have := UInt8.lt_iff_toNat_lt.1 h2; omega
  · subst e; omega

theorem bytesLess_total (a b : List UInt8) : (Op.bytesLess a b = true ∧ Op.bytesLess b a = false ∧ a ≠ b) ∨ (a = b ∧ Op.bytesLess a b = false) ∨ (Op.bytesLess a b = false ∧ Op.bytesLess b a = true ∧ a ≠ b) := by
  induction a generalizing b with
  | nil =>
    cases b with
    | nil => exact .inr (.inl ⟨rfl, rfl⟩)
    | cons d b => exact .inl ⟨rfl, rfl, by simp⟩
  | cons c a ih =>
    cases b with
    | nil => exact .inr (.inr ⟨rfl, rfl, by simp⟩)
    | cons d b =>
      rcases u8_cases c d with h | h | h
      · obtain ⟨h1, h2⟩ := u8_not_lt h
        refine .inl ⟨by simp [Op.bytesLess, h], ?_, by simp [h2]⟩
        simp [Op.bytesLess, h1]
        intro e; exact absurd e.symm h2
      · subst h
        rcases ih b with ⟨h1, h2, h3⟩ | ⟨h1, h2⟩ | ⟨h1, h2, h3⟩
        · exact .inl ⟨by simp [Op.bytesLess, h1], by simp [Op.bytesLess, h2], by simp [h3]⟩
        · subst h1; exact .inr (.inl ⟨rfl, by simp [Op.bytesLess, h2]⟩)
        · exact .inr (.inr ⟨by simp [Op.bytesLess, h1], by simp [Op.bytesLess, h2], by simp [h3]⟩)
      · obtain ⟨h1, h2⟩ := u8_not_lt h
        refine .inr (.inr ⟨?_, by simp [Op.bytesLess, h], by simp; intro e; exact absurd e.symm h2⟩)
        simp [Op.bytesLess, h1]
        intro e; exact absurd e.symm h2

theorem cmpS_neg (a b : List UInt8) : cmpS b a = - cmpS a b := by
  rcases bytesLess_total a b with ⟨h1, h2, h3⟩ | ⟨h1, h2⟩ | ⟨h1, h2, h3⟩
  · simp [cmpS, h1, h2, Ne.symm h3]
  · subst h1; simp [cmpS, h2]
  · simp [cmpS, h1, h2, h3]
theorem cmpI_neg (a b : Int) : cmpI b a = - cmpI a b := by
  unfold cmpI
  repeat' split
  all_goals omega
theorem cmpS_range (a b : List UInt8) : -1 ≤ cmpS a b ∧ cmpS a b ≤ 1 := by unfold cmpS; repeat' split <;> omega
theorem cmpI_range (a b : Int) : -1 ≤ cmpI a b ∧ cmpI a b ≤ 1 := by unfold cmpI; repeat' split <;> omega
theorem cmpP_neg (p q : Pt) : cmpP q p = - cmpP p q := by
  unfold cmpP
  by_cases h : p.k = q.k
  · have h1 : (q.k == p.k) = true := by simpa using h.symm
    have h2 : (p.k == q.k) = true := by simpa using h
    rw [h1, h2]
    simp only [if_true]
    rw [h]
    split
    · exact cmpS_neg _ _
    · exact cmpI_neg _ _
  · have h1 : (q.k == p.k) = false := by simpa using fun e => h e.symm
    have h2 : (p.k == q.k) = false := by simpa using h
    rw [h1, h2]
    exact cmpI_neg _ _
theorem cmpP_range (p q : Pt) : -1 ≤ cmpP p q ∧ cmpP p q ≤ 1 := by
  unfold cmpP
  repeat' split
  · exact cmpS_range _ _
  · exact cmpI_range _ _
  · exact cmpI_range _ _
theorem ptEq_comm (p q : Pt) : ptEq p q = ptEq q p := by
  rw [Bool.eq_iff_iff, ptEq_iff, ptEq_iff]; exact eq_comm
theorem cmpL_neg (ps qs : List Pt) : cmpL qs ps = - cmpL ps qs := by
  induction ps generalizing qs with
  | nil => cases qs <;> simp [cmpL]
  | cons p ps ih =>
    cases qs with
    | nil => simp [cmpL]
    | cons q qs =>
      rw [cmpL, cmpL, ptEq_comm q p]
      split
      · exact ih qs
      · exact cmpP_neg p q
theorem cmpL_range (ps qs : List Pt) : -1 ≤ cmpL ps qs ∧ cmpL ps qs ≤ 1 := by
  induction ps generalizing qs with
  | nil => cases qs <;> simp [cmpL]
  | cons p ps ih =>
    cases qs with
    | nil => simp [cmpL]
    | cons q qs =>
      rw [cmpL]
      split
      · exact ih qs
      · exact cmpP_range p q
theorem cmpAns_neg (ps qs : List Pt) : cmpAns qs ps = (- (cmpAns ps qs).1, (cmpAns ps qs).2) := by
  unfold cmpAns
  rw [Bool.and_comm]
  split
  · simp [cmpL_neg ps qs]
  · rfl
theorem cmpAns_range (ps qs : List Pt) : -1 ≤ (cmpAns ps qs).1 ∧ (cmpAns ps qs).1 ≤ 1 := by
  unfold cmpAns
  split
  · exact cmpL_range ps qs
  · simp

end Go.Proofs.Ytehbclliiphglab
