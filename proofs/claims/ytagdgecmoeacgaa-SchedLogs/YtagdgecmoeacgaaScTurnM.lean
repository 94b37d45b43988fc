/- Layer 17 (sched), plain: all are always ready. -/
import Derived.Test.YtagdgecmoeacgaaScM
namespace Go.Proofs.Ytagdgecmoeacgaa
set_option linter.unusedVariables false

theorem ftB_rep : ∀ m, ftB (List.replicate m true) = 0
  | 0 => rfl
  | m + 1 => rfl
theorem atP_rep : ∀ m q, q < m → atP (List.replicate m true) q = q
  | 0, q, h => by omega
  | m + 1, 0, h => rfl
  | m + 1, q + 1, h => by
    have := atP_rep m q (by omega)
    simp [List.replicate_succ, atP, this]
theorem rep_getD {n i : Nat} (h : i < n) : (List.replicate n true).getD i false = true := by
  rw [List.getD_eq_getElem?_getD, List.getElem?_eq_getElem (by simpa using h)]; simp
theorem behP_rep {n l : Nat} (hn : 1 ≤ n) (hl : l ≤ n) : behP (List.replicate n true) l = if l < n then l else 0 := by
  unfold behP
  rw [List.drop_replicate, ftB_rep, ftB_rep, List.length_replicate]
  rfl
/-- A chooser behind i calls without picks, all n ready. -/
structure TI (n : Nat) (b : Int) (i : Nat) (c : Ch) : Prop where
  picks : c.picks = []
  bound : c.bound = b
  ex : ∃ q t : Nat, i = q * n + t ∧ t < n ∧ c.last = (if t = 0 then (if q = 0 then -1 else (n : Int) - 1) else (t : Int) - 1) ∧ ∀ j, j < n → c.ages.getD j 0 = if j < t then t - 1 - j else if q = 0 then t else t + n - 1 - j
theorem TI.zero {n : Nat} {b : Int} (hn : 1 ≤ n) : TI n b 0 ⟨[], b, -1, []⟩ := ⟨rfl, rfl, 0, 0, by omega, hn, rfl, fun j hj => by simp⟩
theorem TI.next {n i : Nat} {b : Int} {c : Ch} (hn : 1 ≤ n) (h : TI n b i c) : (nextP c (List.replicate n true)).2 = (i % n, true) ∧ TI n b (i + 1) (nextP c (List.replicate n true)).1 := by
  obtain ⟨hp, hb, q, t, hi, ht, hl, ha⟩ := h
  have him : i % n = t := by rw [hi, Nat.mul_comm, Nat.mul_add_mod, Nat.mod_eq_of_lt ht]
  have hlen : (List.replicate n true).length = n := List.length_replicate
  have hA : ∀ j, j < n → (fitP c.ages n).getD j 0 = if j < t then t - 1 - j else if q = 0 then t else t + n - 1 - j := fun j hj => by rw [fitP_getD _ _ _ hj]; exact ha j hj
  have hL := lookP_ok (List.replicate n true) (fitP c.ages n)
  have hc := lookP_count (List.replicate n true) (fitP c.ages n)
  have hcn : (List.replicate n true).count true = n := by simp
  have h0 : 0 < (lookP (List.replicate n true) (fitP c.ages n)).1 := by omega
  have ho : (lookP (List.replicate n true) (fitP c.ages n)).2 = t := by
    have h1 := hL.lt h0
    have h2 := hL.most h0 t (by rw [hlen]; exact ht) (rep_getD ht)
    have h3 := hL.first h0
    rw [hlen] at h1
    generalize (lookP (List.replicate n true) (fitP c.ages n)).2 = o at h1 h2 h3
    rw [hA o h1, hA t ht] at h2
    rcases Nat.lt_trichotomy o t with h4 | h4 | h4
    · exfalso
      revert h2
      (repeat' split) <;> intro h2 <;> omega
    · exact h4
    · exfalso
      have h5 := h3 t h4 (rep_getD ht)
      rw [hA o h1, hA t ht] at h5
      revert h5
      (repeat' split) <;> intro h5 <;> omega
  have hch : (pickP c.picks c.bound c.last (fitP c.ages n) (List.replicate n true)) = ([], t) := by
    unfold pickP
    split
    · rw [ho, hp]
    · rw [hp]
      dsimp only
      congr 1
      rw [hl]
      by_cases h1 : t = 0
      · rw [if_pos h1]
        by_cases h2 : q = 0
        · rw [if_pos h2, behP_rep hn (by omega), if_pos (by omega)]; omega
        · rw [if_neg h2, behP_rep hn (by omega), if_neg (by omega)]; omega
      · rw [if_neg h1, behP_rep hn (by omega), if_pos (by omega)]; omega
  have hnx : nextP c (List.replicate n true) = (⟨[], c.bound, (t : Int), ageP (fitP c.ages n) (List.replicate n true) t⟩, t, true) := by
    unfold nextP
    rw [hlen, if_neg (by omega), hch]
  rw [hnx, him]
  refine ⟨rfl, rfl, hb, ?_⟩
  have hag : ∀ j, j < n → (ageP (fitP c.ages n) (List.replicate n true) t).getD j 0 = if j = t then 0 else (if j < t then t - 1 - j else if q = 0 then t else t + n - 1 - j) + 1 := by
    intro j hj
    rw [ageP_getD, rep_getD hj, hA j hj]
    by_cases h : j = t
    · rw [if_neg (by simp [h]), if_pos h]
    · rw [if_pos ⟨rfl, h⟩, if_neg h]
  by_cases hw : t + 1 = n
  · refine ⟨q + 1, 0, by rw [Nat.add_mul]; omega, hn, ?_, fun j hj => ?_⟩
    · rw [if_pos rfl, if_neg (by omega)]
      show ((t : Nat) : Int) = _
      omega
    · show (ageP (fitP c.ages n) (List.replicate n true) t).getD j 0 = _
      rw [hag j hj]
      (repeat' split) <;> omega
  · refine ⟨q, t + 1, by omega, by omega, ?_, fun j hj => ?_⟩
    · rw [if_neg (by omega)]
      show ((t : Nat) : Int) = _
      omega
    · show (ageP (fitP c.ages n) (List.replicate n true) t).getD j 0 = _
      rw [hag j hj]
      (repeat' split) <;> omega
/-- A chooser behind i calls with these picks, all n ready, a bound that isn't reached. -/
structure PI (want : List Int) (i : Nat) (c : Ch) : Prop where
  picks : c.picks = want.drop i
  bound : c.bound = (want.length : Int) + 1
  ages : ∀ a ∈ c.ages, a ≤ i
theorem PI.next {n i : Nat} {want : List Int} {c : Ch} (hn : 1 ≤ n) (h : PI want i c) (hi : i < want.length) : (nextP c (List.replicate n true)).2 = ((want[i] % (n : Int)).toNat, true) ∧ PI want (i + 1) (nextP c (List.replicate n true)).1 := by
  obtain ⟨hp, hb, ha⟩ := h
  have hlen : (List.replicate n true).length = n := List.length_replicate
  have hL := lookP_ok (List.replicate n true) (fitP c.ages n)
  have hc := lookP_count (List.replicate n true) (fitP c.ages n)
  have hcn : (List.replicate n true).count true = n := by simp
  have hfa := fitP_le (n := n) ha
  have hch : (pickP c.picks c.bound c.last (fitP c.ages n) (List.replicate n true)) = (want.drop (i + 1), (want[i] % (n : Int)).toNat) := by
    unfold pickP
    rw [if_neg, hp, List.drop_eq_getElem_cons hi]
    · dsimp only
      rw [hc, hcn, atP_rep _ _ (place_lt hn)]
    · have : (fitP c.ages n).getD (lookP (List.replicate n true) (fitP c.ages n)).2 0 ≤ i := by
        rw [List.getD_eq_getElem?_getD]
        cases hq : (fitP c.ages n)[(lookP (List.replicate n true) (fitP c.ages n)).2]? with
        | none => simp
        | some x => exact hfa x (List.mem_of_getElem? hq)
      omega
  have hnx : nextP c (List.replicate n true) = (⟨want.drop (i + 1), c.bound, ((want[i] % (n : Int)).toNat : Int), ageP (fitP c.ages n) (List.replicate n true) (want[i] % (n : Int)).toNat⟩, (want[i] % (n : Int)).toNat, true) := by
    unfold nextP
    rw [hlen, if_neg (by omega), hch]
  rw [hnx]
  exact ⟨rfl, rfl, hb, ageP_le hfa⟩
end Go.Proofs.Ytagdgecmoeacgaa
