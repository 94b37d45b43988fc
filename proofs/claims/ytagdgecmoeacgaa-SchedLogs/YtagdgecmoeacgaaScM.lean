/- Layer 17 (sched), plain: what a chooser chooses. -/
import Derived.Test.YtagdgecmoeacgaaKBase
namespace Go.Proofs.Ytagdgecmoeacgaa
open Go.RowKit
set_option linter.unusedVariables false

/-- A chooser's state: the picks that are left, the bound, the one chosen last (-1: none), the ages. -/
structure Ch where
  picks : List Int
  bound : Int
  last : Int
  ages : List Nat

/-- How many of the first k are ready, and the first of those with the greatest age. -/
def lookK (r : List Bool) (A : List Nat) : Nat → Nat × Nat
  | 0 => (0, 0)
  | k + 1 => if r.getD k false = true then ((lookK r A k).1 + 1, if (lookK r A k).1 = 0 ∨ A.getD (lookK r A k).2 0 < A.getD k 0 then k else (lookK r A k).2) else lookK r A k
def lookP (r : List Bool) (A : List Nat) : Nat × Nat := lookK r A r.length
/-- The place of the p-th that is ready. -/
def atP : List Bool → Nat → Nat
  | [], _ => 0
  | true :: _, 0 => 0
  | true :: r, p + 1 => atP r p + 1
  | false :: r, p => atP r p + 1
/-- The place of the first that is ready; the length: there is none. -/
def ftB : List Bool → Nat
  | [] => 0
  | true :: _ => 0
  | false :: r => ftB r + 1
def behP (r : List Bool) (l : Nat) : Nat := if l + ftB (r.drop l) < r.length then l + ftB (r.drop l) else ftB r
def fitP (A : List Nat) (n : Nat) : List Nat := A.take n ++ List.replicate (n - A.length) 0
def ageP (A : List Nat) (r : List Bool) (ch : Nat) : List Nat := (List.range r.length).map fun i => if r.getD i false = true ∧ i ≠ ch then A.getD i 0 + 1 else 0
/-- The picks that are left, the one chosen: where some are ready. -/
def pickP (ps : List Int) (bound last : Int) (A : List Nat) (r : List Bool) : List Int × Nat :=
  if bound ≤ ((A.getD (lookP r A).2 0 : Nat) : Int) then (ps, (lookP r A).2)
  else match ps with
    | p :: ps => (ps, atP r (p % ((lookP r A).1 : Int)).toNat)
    | [] => ([], behP r (last + 1).toNat)
def nextP (c : Ch) (r : List Bool) : Ch × Nat × Bool :=
  if (lookP r (fitP c.ages r.length)).1 = 0 then (⟨c.picks, c.bound, c.last, ageP (fitP c.ages r.length) r 0⟩, 0, false)
  else (⟨(pickP c.picks c.bound c.last (fitP c.ages r.length) r).1, c.bound, ((pickP c.picks c.bound c.last (fitP c.ages r.length) r).2 : Nat), ageP (fitP c.ages r.length) r (pickP c.picks c.bound c.last (fitP c.ages r.length) r).2⟩, (pickP c.picks c.bound c.last (fitP c.ages r.length) r).2, true)

theorem fitP_length (A : List Nat) (n : Nat) : (fitP A n).length = n := by simp [fitP]; omega
theorem fitP_self (A : List Nat) : fitP A A.length = A := by simp [fitP]
theorem fitP_getD (A : List Nat) (n i : Nat) (hi : i < n) : (fitP A n).getD i 0 = A.getD i 0 := by
  unfold fitP
  rw [List.getD_eq_getElem?_getD, List.getD_eq_getElem?_getD, List.getElem?_append]
  by_cases h : i < A.length
  · rw [if_pos (by simp; omega), List.getElem?_take, if_pos hi]
  · rw [if_neg (by simp; omega), List.getElem?_eq_none (l := A) (by omega), List.getElem?_replicate]
    split <;> rfl
theorem ageP_length (A : List Nat) (r : List Bool) (ch : Nat) : (ageP A r ch).length = r.length := by simp [ageP]
theorem ageP_getD (A : List Nat) (r : List Bool) (ch i : Nat) : (ageP A r ch).getD i 0 = if r.getD i false = true ∧ i ≠ ch then A.getD i 0 + 1 else 0 := by
  unfold ageP
  rw [List.getD_eq_getElem?_getD, List.getElem?_map]
  by_cases h : i < r.length
  · rw [List.getElem?_eq_getElem (by simpa using h)]
    simp
  · rw [List.getElem?_eq_none (by simp; omega), if_neg]
    · rfl
    · rintro ⟨h1, -⟩
      rw [List.getD_eq_getElem?_getD, List.getElem?_eq_none (by omega)] at h1
      cases h1
theorem ageP_le {A : List Nat} {r : List Bool} {ch m : Nat} (h : ∀ a ∈ A, a ≤ m) : ∀ a ∈ ageP A r ch, a ≤ m + 1 := by
  intro a ha
  obtain ⟨i, hi, rfl⟩ := List.mem_map.1 ha
  split
  · have : A.getD i 0 ≤ m := by
      rw [List.getD_eq_getElem?_getD]
      cases hq : A[i]? with
      | none => simp
      | some x => exact h x (List.mem_of_getElem? hq)
    omega
  · omega
theorem fitP_le {A : List Nat} {n m : Nat} (h : ∀ a ∈ A, a ≤ m) : ∀ a ∈ fitP A n, a ≤ m := by
  intro a ha
  rcases List.mem_append.1 ha with h1 | h1
  · exact h a (List.mem_of_mem_take h1)
  · rw [(List.mem_replicate.1 h1).2]; omega
/-- The first k updated, the rest as they were. -/
def ageK (A : List Nat) (r : List Bool) (ch k : Nat) : List Nat := (ageP A r ch).take k ++ A.drop k
theorem ageK_zero (A : List Nat) (r : List Bool) (ch : Nat) : ageK A r ch 0 = A := by simp [ageK]
theorem ageK_length (A : List Nat) (r : List Bool) (ch k : Nat) (h : A.length = r.length) (hk : k ≤ r.length) : (ageK A r ch k).length = r.length := by
  simp [ageK, ageP_length]; omega
theorem ageK_end (A : List Nat) (r : List Bool) (ch : Nat) (h : A.length = r.length) : ageK A r ch r.length = ageP A r ch := by
  unfold ageK
  rw [List.take_of_length_le (by rw [ageP_length]; exact Nat.le_refl _), List.drop_of_length_le (by omega), List.append_nil]
theorem ageK_at (A : List Nat) (r : List Bool) (ch k : Nat) (h : A.length = r.length) (hk : k < r.length) : (ageK A r ch k)[k]? = some (A.getD k 0) := by
  unfold ageK
  have hl : ((ageP A r ch).take k).length = k := by rw [List.length_take, ageP_length]; omega
  rw [List.getElem?_append_right (by omega), hl, Nat.sub_self, List.getElem?_drop, Nat.add_zero, List.getD_eq_getElem?_getD, List.getElem?_eq_getElem (by omega)]
  rfl
theorem ageK_succ (A : List Nat) (r : List Bool) (ch k : Nat) (h : A.length = r.length) (hk : k < r.length) : (ageK A r ch k).set k (if r.getD k false = true ∧ k ≠ ch then A.getD k 0 + 1 else 0) = ageK A r ch (k + 1) := by
  rw [← ageP_getD]
  unfold ageK
  have hl : ((ageP A r ch).take k).length = k := by rw [List.length_take, ageP_length]; omega
  rw [List.set_append_right _ _ (by omega), hl, Nat.sub_self, List.drop_eq_getElem_cons (by omega : k < A.length), List.set_cons_zero, List.take_succ_eq_append_getElem (by rw [ageP_length]; exact hk), List.append_assoc]
  congr 1
  rw [List.singleton_append, List.getD_eq_getElem?_getD, List.getElem?_eq_getElem (by rw [ageP_length]; exact hk)]
  rfl

theorem lookK_succ_true {r : List Bool} {A : List Nat} {k : Nat} (h : r.getD k false = true) : lookK r A (k + 1) = ((lookK r A k).1 + 1, if (lookK r A k).1 = 0 ∨ A.getD (lookK r A k).2 0 < A.getD k 0 then k else (lookK r A k).2) := by
  rw [lookK, if_pos h]
theorem lookK_succ_false {r : List Bool} {A : List Nat} {k : Nat} (h : r.getD k false = false) : lookK r A (k + 1) = lookK r A k := by
  rw [lookK, if_neg (by rw [h]; decide)]
/-- What the look finds. -/
structure LkI (r : List Bool) (A : List Nat) (k : Nat) (p : Nat × Nat) : Prop where
  cnt : p.1 = (r.take k).count true
  le : p.1 ≤ k
  lt : 0 < p.1 → p.2 < k
  rdy : 0 < p.1 → r.getD p.2 false = true
  most : 0 < p.1 → ∀ i, i < k → r.getD i false = true → A.getD i 0 ≤ A.getD p.2 0
  first : 0 < p.1 → ∀ i, i < p.2 → r.getD i false = true → A.getD i 0 < A.getD p.2 0
  zero : p.1 = 0 → p.2 = 0
theorem look_ok (r : List Bool) (A : List Nat) : ∀ k, k ≤ r.length → LkI r A k (lookK r A k)
  | 0, _ => ⟨by simp [lookK], by simp [lookK], fun h => by simp [lookK] at h, fun h => by simp [lookK] at h, fun h => by simp [lookK] at h, fun h => by simp [lookK] at h, fun _ => rfl⟩
  | k + 1, hk => by
    have ih := look_ok r A k (by omega)
    have ht : r.take (k + 1) = r.take k ++ [r.getD k false] := by
      rw [List.take_succ_eq_append_getElem (by omega), List.getD_eq_getElem?_getD, List.getElem?_eq_getElem (by omega)]; rfl
    have hc : (r.take (k + 1)).count true = (r.take k).count true + if r.getD k false = true then 1 else 0 := by
      rw [ht, List.count_append]
      cases r.getD k false <;> simp
    cases hb : r.getD k false with
    | false =>
      rw [lookK_succ_false hb]
      rw [hb] at hc
      refine ⟨by rw [hc, ih.cnt]; simp, by have := ih.le; omega, fun h => by have := ih.lt h; omega, ih.rdy, fun h i hi hr => ?_, ih.first, ih.zero⟩
      rcases Nat.lt_or_ge i k with h1 | h1
      · exact ih.most h i h1 hr
      · have : i = k := by omega
        subst this
        rw [hb] at hr; cases hr
    | true =>
      rw [lookK_succ_true hb]
      rw [hb] at hc
      generalize lookK r A k = p at ih ⊢
      by_cases hq : p.1 = 0 ∨ A.getD p.2 0 < A.getD k 0
      · rw [if_pos hq]
        refine ⟨by rw [hc, ih.cnt]; simp, by have := ih.le; dsimp only; omega, fun _ => by dsimp only; omega, fun _ => hb, fun _ i hi hr => ?_, fun _ i hi hr => ?_, fun h => by dsimp only at h; omega⟩
        · rcases Nat.lt_or_ge i k with h1 | h1
          · rcases hq with h0 | h0
            · exfalso
              have h2 := ih.cnt
              rw [h0] at h2
              have h3 : true ∈ r.take k := by
                rw [List.mem_iff_getElem?]
                refine ⟨i, ?_⟩
                rw [List.getElem?_take, if_pos h1]
                rw [List.getD_eq_getElem?_getD] at hr
                cases hx : r[i]? with
                | none => rw [hx] at hr; cases hr
                | some b => rw [hx] at hr; exact congrArg some hr
              have := List.count_pos_iff.2 h3
              omega
            · have h4 : 0 < p.1 ∨ p.1 = 0 := by omega
              rcases h4 with h4 | h4
              · have := ih.most h4 i h1 hr
                dsimp only; omega
              · exfalso
                have h2 := ih.cnt
                rw [h4] at h2
                have h3 : true ∈ r.take k := by
                  rw [List.mem_iff_getElem?]
                  refine ⟨i, ?_⟩
                  rw [List.getElem?_take, if_pos h1]
                  rw [List.getD_eq_getElem?_getD] at hr
                  cases hx : r[i]? with
                  | none => rw [hx] at hr; cases hr
                  | some b => rw [hx] at hr; exact congrArg some hr
                have := List.count_pos_iff.2 h3
                omega
          · have : i = k := by omega
            subst this
            exact Nat.le_refl _
        · dsimp only at hi ⊢
          have h4 : 0 < p.1 ∨ p.1 = 0 := by omega
          rcases h4 with h4 | h4
          · have := ih.most h4 i hi hr
            rcases hq with h0 | h0 <;> omega
          · exfalso
            have h2 := ih.cnt
            rw [h4] at h2
            have h3 : true ∈ r.take k := by
              rw [List.mem_iff_getElem?]
              refine ⟨i, ?_⟩
              rw [List.getElem?_take, if_pos hi]
              rw [List.getD_eq_getElem?_getD] at hr
              cases hx : r[i]? with
              | none => rw [hx] at hr; cases hr
              | some b => rw [hx] at hr; exact congrArg some hr
            have := List.count_pos_iff.2 h3
            omega
      · rw [if_neg hq]
        have h1 : 0 < p.1 := by omega
        refine ⟨by rw [hc, ih.cnt]; simp, by have := ih.le; dsimp only; omega, fun _ => by have := ih.lt h1; dsimp only; omega, fun _ => ih.rdy h1, fun _ i hi hr => ?_, fun _ => ih.first h1, fun h => by dsimp only at h; omega⟩
        dsimp only
        rcases Nat.lt_or_ge i k with h2 | h2
        · exact ih.most h1 i h2 hr
        · have : i = k := by omega
          subst this
          omega
theorem lookP_ok (r : List Bool) (A : List Nat) : LkI r A r.length (lookP r A) := look_ok r A _ (Nat.le_refl _)
theorem lookP_count (r : List Bool) (A : List Nat) : (lookP r A).1 = r.count true := by have := (lookP_ok r A).cnt; rwa [List.take_length] at this

theorem ftB_le : ∀ r : List Bool, ftB r ≤ r.length
  | [] => Nat.le_refl _
  | true :: r => Nat.zero_le _
  | false :: r => by have := ftB_le r; simp only [ftB, List.length_cons]; omega
theorem ftB_rdy : ∀ r : List Bool, ftB r < r.length → r.getD (ftB r) false = true
  | [], h => by simp [ftB] at h
  | true :: r, _ => rfl
  | false :: r, h => by
    have := ftB_rdy r (by simpa [ftB] using h)
    simpa [ftB] using this
theorem ftB_lt : ∀ r : List Bool, 0 < r.count true → ftB r < r.length
  | [], h => by simp at h
  | true :: r, _ => by simp [ftB]
  | false :: r, h => by
    have := ftB_lt r (by simpa using h)
    simpa [ftB] using this
theorem ftB_none : ∀ r : List Bool, r.count true = 0 → ftB r = r.length
  | [], h => rfl
  | true :: r, h => by simp at h
  | false :: r, h => by
    have := ftB_none r (by simpa using h)
    simp [ftB, this]
theorem atP_lt : ∀ (r : List Bool) (p : Nat), p < r.count true → atP r p < r.length ∧ r.getD (atP r p) false = true
  | [], p, h => by simp at h
  | true :: r, 0, _ => by simp [atP]
  | true :: r, p + 1, h => by
    have := atP_lt r p (by simpa using h)
    simpa [atP] using this
  | false :: r, p, h => by
    have := atP_lt r p (by simpa using h)
    simpa [atP] using this
theorem behP_ok (r : List Bool) (l : Nat) (h : 0 < r.count true) : behP r l < r.length ∧ r.getD (behP r l) false = true := by
  unfold behP
  split
  · rename_i hl
    refine ⟨hl, ?_⟩
    have := ftB_rdy (r.drop l) (by rw [List.length_drop]; omega)
    rw [List.getD_eq_getElem?_getD, List.getElem?_drop] at this
    rw [List.getD_eq_getElem?_getD]
    exact this
  · exact ⟨ftB_lt r h, ftB_rdy r (ftB_lt r h)⟩
theorem place_lt {p : Int} {n : Nat} (h : 0 < n) : (p % (n : Int)).toNat < n := by
  have h1 := Int.emod_nonneg p (b := (n : Int)) (by omega)
  have h2 := Int.emod_lt_of_pos p (b := (n : Int)) (by omega)
  omega
/-- Who is chosen is ready. -/
theorem pick_ok (ps : List Int) (bound last : Int) (A : List Nat) (r : List Bool) (h : 0 < (lookP r A).1) : (pickP ps bound last A r).2 < r.length ∧ r.getD (pickP ps bound last A r).2 false = true := by
  have h0 : 0 < r.count true := by rw [← lookP_count r A]; exact h
  unfold pickP
  split
  · exact ⟨(lookP_ok r A).lt h, (lookP_ok r A).rdy h⟩
  · split
    · exact atP_lt r _ (by rw [← lookP_count r A]; exact place_lt h)
    · exact behP_ok r _ h0
end Go.Proofs.Ytagdgecmoeacgaa
