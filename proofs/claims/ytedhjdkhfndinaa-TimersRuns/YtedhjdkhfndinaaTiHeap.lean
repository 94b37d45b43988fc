/- Layer 14 (timers): the order of timers, heaps as lists. -/
import Derived.Test.YtedhjdkhfndinaaTiSwap
namespace Go.Proofs.Ytedhjdkhfndinaa
set_option linter.unusedVariables false

theorem ltT_iff (x y : Tm) : ltT x y = true ↔ x.tm < y.tm ∨ (x.tm = y.tm ∧ x.turn < y.turn) := by
  unfold ltT
  by_cases h : x.tm = y.tm
  · rw [if_pos h]; simp [h]
  · rw [if_neg h]; simp [h]
/-- x does not fire behind y. -/
def leT (x y : Tm) : Prop := ltT y x = false
theorem leT_iff (x y : Tm) : leT x y ↔ x.tm < y.tm ∨ (x.tm = y.tm ∧ x.turn ≤ y.turn) := by
  unfold leT
  rw [Bool.eq_false_iff, ne_eq, ltT_iff]
  omega
theorem leT.trans {x y z : Tm} (h : leT x y) (k : leT y z) : leT x z := by
  rw [leT_iff] at *
  omega
theorem leT_of_lt {x y : Tm} (h : ltT x y = true) : leT x y := by
  rw [leT_iff]
  rw [ltT_iff] at h
  omega
theorem leT_refl (x : Tm) : leT x x := by rw [leT_iff]; omega

/-- The place above. -/
def par (k : Nat) : Nat := (k - 1) / 2
theorem par_lt {k : Nat} (h : 0 < k) : par k < k := by unfold par; omega
theorem par_le (k : Nat) : par k ≤ k := by unfold par; omega

/-- The first n are a heap. -/
def HpAll (L : List Tm) (n : Nat) : Prop := ∀ k, 0 < k → k < n → ∀ x y, L[par k]? = some x → L[k]? = some y → leT x y
/-- A heap but for the way up from j. -/
def HpUp (L : List Tm) (n j : Nat) : Prop :=
  (∀ k, 0 < k → k < n → k ≠ j → ∀ x y, L[par k]? = some x → L[k]? = some y → leT x y) ∧
  (∀ k, 0 < k → k < n → par k = j → 0 < j → ∀ x y, L[par j]? = some x → L[k]? = some y → leT x y)
/-- A heap but for the way down from i (and, at i0 itself, for the way up). -/
def HpDn (L : List Tm) (n i0 i : Nat) : Prop :=
  (∀ k, 0 < k → k < n → par k ≠ i → (k ≠ i0 ∨ i ≠ i0) → ∀ x y, L[par k]? = some x → L[k]? = some y → leT x y) ∧
  (∀ k, 0 < k → k < n → par k = i → 0 < i → ∀ x y, L[par i]? = some x → L[k]? = some y → leT x y)

theorem swap_at {L : List Tm} {i j k : Nat} {x y : Tm} (hx : L[i]? = some x) (hy : L[j]? = some y) (h1 : k ≠ i) (h2 : k ≠ j) : (swapL L i j x y)[k]? = L[k]? := by
  unfold swapL
  rw [List.getElem?_set_ne (Ne.symm h2), List.getElem?_set_ne (Ne.symm h1)]
theorem swap_at1 {L : List Tm} {i j : Nat} {x y : Tm} (hx : L[i]? = some x) (hy : L[j]? = some y) (h : i ≠ j) : (swapL L i j x y)[i]? = some y := by
  rw [getElem_set_or hx hy]
  exact .inr (.inl ⟨h, rfl, rfl⟩)
theorem swap_at2 {L : List Tm} {i j : Nat} {x y : Tm} (hx : L[i]? = some x) (hy : L[j]? = some y) : (swapL L i j x y)[j]? = some x := by
  rw [getElem_set_or hx hy]
  exact .inl ⟨rfl, rfl⟩
theorem swap_perm {L : List Tm} {i j : Nat} {x y : Tm} (hx : L[i]? = some x) (hy : L[j]? = some y) : (swapL L i j x y).Perm L := by
  obtain ⟨hi, rfl⟩ := List.getElem?_eq_some_iff.1 hx
  obtain ⟨hj, rfl⟩ := List.getElem?_eq_some_iff.1 hy
  exact List.set_set_perm hi hj

theorem HpUp.top {L : List Tm} {n : Nat} (h : HpUp L n 0) : HpAll L n := fun k h0 hk => h.1 k h0 hk (by omega)
theorem HpUp.done {L : List Tm} {n j : Nat} (h : HpUp L n j) {x y : Tm} (hx : L[par j]? = some x) (hy : L[j]? = some y) (hl : ltT y x = false) : HpAll L n := by
  intro k h0 hk a b ha hb
  by_cases e : k = j
  · subst e
    obtain rfl := Option.some.inj (ha.symm.trans hx)
    obtain rfl := Option.some.inj (hb.symm.trans hy)
    exact hl
  · exact h.1 k h0 hk e a b ha hb
theorem HpUp.step {L : List Tm} {n j : Nat} (h : HpUp L n j) (h0 : 0 < j) (hj : j < n) {x y : Tm} (hx : L[par j]? = some x) (hy : L[j]? = some y) (hl : ltT y x = true) : HpUp (swapL L (par j) j x y) n (par j) := by
  have hp := par_lt h0
  have hne : par j ≠ j := Nat.ne_of_lt hp
  have hle := leT_of_lt hl
  constructor
  · intro k k0 kn kp a b ha hb
    by_cases e : k = j
    · subst e
      rw [swap_at1 hx hy hne] at ha
      rw [swap_at2 hx hy] at hb
      obtain rfl := Option.some.inj ha
      obtain rfl := Option.some.inj hb
      exact hle
    · rw [swap_at hx hy kp e] at hb
      by_cases e2 : par k = j
      · rw [e2, swap_at2 hx hy] at ha
        obtain rfl := Option.some.inj ha
        exact h.2 k k0 kn e2 h0 _ _ hx hb
      · by_cases e3 : par k = par j
        · rw [e3, swap_at1 hx hy hne] at ha
          obtain rfl := Option.some.inj ha
          exact hle.trans (h.1 k k0 kn e x b (e3 ▸ hx) hb)
        · rw [swap_at hx hy e3 e2] at ha
          exact h.1 k k0 kn e a b ha hb
  · intro k k0 kn kp p0 a b ha hb
    have hpp := par_lt p0
    rw [swap_at hx hy (Nat.ne_of_lt hpp) (by omega)] at ha
    have hax : leT a x := h.1 (par j) p0 (by omega) hne a x ha hx
    by_cases e : k = j
    · subst e
      rw [swap_at2 hx hy] at hb
      obtain rfl := Option.some.inj hb
      exact hax
    · have hk2 : k ≠ par j := fun e2 => by have := par_lt k0; rw [kp] at this; omega
      rw [swap_at hx hy hk2 e] at hb
      exact hax.trans (h.1 k k0 kn e x b (kp ▸ hx) hb)

/-- Nothing beneath i is ahead of it. -/
theorem HpDn.stay {L : List Tm} {n i0 i : Nat} (h : HpDn L n i0 i) (hl : ∀ k, 0 < k → k < n → par k = i → ∀ x y, L[i]? = some x → L[k]? = some y → leT x y) :
    (i ≠ i0 → HpAll L n) ∧ (i = i0 → HpUp L n i0) := by
  constructor
  · intro hne k k0 kn a b ha hb
    by_cases e : par k = i
    · exact hl k k0 kn e a b (e ▸ ha) hb
    · exact h.1 k k0 kn e (.inr hne) a b ha hb
  · rintro rfl
    refine ⟨fun k k0 kn ke a b ha hb => ?_, fun k k0 kn ke i0 a b ha hb => h.2 k k0 kn ke i0 a b ha hb⟩
    by_cases e : par k = i
    · exact hl k k0 kn e a b (e ▸ ha) hb
    · exact h.1 k k0 kn e (.inl ke) a b ha hb
theorem HpDn.step {L : List Tm} {n i0 i j : Nat} (h : HpDn L n i0 i) (hi : i0 ≤ i) (hj0 : 0 < j) (hj : j < n) (hp : par j = i) {x y : Tm} (hx : L[i]? = some x) (hy : L[j]? = some y) (hl : ltT y x = true)
    (hs : ∀ k, 0 < k → k < n → par k = i → ∀ z, L[k]? = some z → leT y z) : HpDn (swapL L i j x y) n i0 j := by
  have hij : i < j := by have := par_lt hj0; omega
  have hne : i ≠ j := Nat.ne_of_lt hij
  have hle := leT_of_lt hl
  constructor
  · intro k k0 kn kp _ a b ha hb
    by_cases e1 : k = j
    · subst e1
      rw [hp, swap_at1 hx hy hne] at ha
      rw [swap_at2 hx hy] at hb
      obtain rfl := Option.some.inj ha
      obtain rfl := Option.some.inj hb
      exact hle
    · by_cases e2 : k = i
      · subst e2
        have hpk := par_lt k0
        rw [swap_at1 hx hy hne] at hb
        rw [swap_at hx hy (by omega) (by omega)] at ha
        obtain rfl := Option.some.inj hb
        exact h.2 j hj0 hj hp k0 _ _ ha hy
      · rw [swap_at hx hy e2 e1] at hb
        by_cases e3 : par k = i
        · rw [e3, swap_at1 hx hy hne] at ha
          obtain rfl := Option.some.inj ha
          exact hs k k0 kn e3 b hb
        · rw [swap_at hx hy e3 kp] at ha
          exact h.1 k k0 kn e3 (by omega) a b ha hb
  · intro k k0 kn kp _ a b ha hb
    rw [hp, swap_at1 hx hy hne] at ha
    obtain rfl := Option.some.inj ha
    have hkj : j < k := by have := par_lt k0; omega
    rw [swap_at hx hy (by omega) (by omega)] at hb
    exact h.1 k k0 kn (by omega) (.inl (by omega)) _ _ (kp ▸ hy) hb
end Go.Proofs.Ytedhjdkhfndinaa
