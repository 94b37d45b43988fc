/- Layer 17 (sched), plain: nobody waits too long. -/
import Derived.Test.YtagdgecmoeacgaaScM
namespace Go.Proofs.Ytagdgecmoeacgaa
set_option linter.unusedVariables false

theorem countP_lt {α : Type} {p q : α → Bool} : ∀ {l : List α}, (∀ x ∈ l, p x = true → q x = true) → (∃ x ∈ l, q x = true ∧ p x = false) → l.countP p + 1 ≤ l.countP q
  | [], _, ⟨x, hx, _⟩ => by cases hx
  | a :: l, h, ⟨x, hx, h1, h2⟩ => by
    have hm : l.countP p ≤ l.countP q := List.countP_mono_left fun y hy => h y (List.mem_cons_of_mem _ hy)
    rw [List.countP_cons, List.countP_cons]
    rcases List.mem_cons.1 hx with rfl | hx
    · rw [if_neg (by rw [h2]; decide), if_pos h1]; omega
    · have ih := countP_lt (l := l) (fun y hy => h y (List.mem_cons_of_mem _ hy)) ⟨x, hx, h1, h2⟩
      have ha := h a (List.mem_cons_self ..)
      split
      · rw [if_pos (ha (by assumption))]; omega
      · split <;> omega
/-- How many of the first n have an age of m and more. -/
def above (n : Nat) (A : Nat → Nat) (m : Nat) : Nat := (List.range n).countP fun i => decide (m ≤ A i)
def ageF (c : Ch) (i : Nat) : Nat := c.ages.getD i 0
structure FairI (n b : Nat) (c : Ch) : Prop where
  bound : c.bound = (b : Int)
  pos : 1 ≤ b
  few : ∀ k, above n (ageF c) (b + k) = 0 ∨ above n (ageF c) (b + k) + k + 1 ≤ n
theorem above_none {n : Nat} {A : Nat → Nat} {m : Nat} (h : ∀ i, i < n → A i < m) : above n A m = 0 := by
  unfold above
  rw [List.countP_eq_zero]
  intro i hi
  have := h i (List.mem_range.1 hi)
  simp; omega
theorem above_some {n i : Nat} {A : Nat → Nat} {m : Nat} (hi : i < n) (h : m ≤ A i) : 0 < above n A m := by
  unfold above
  rw [List.countP_pos_iff]
  exact ⟨i, List.mem_range.2 hi, by simpa using h⟩
theorem FairI.lt {n b i : Nat} {c : Ch} (h : FairI n b c) (hi : i < n) : ageF c i < b + n := by
  rcases Nat.lt_or_ge (ageF c i) (b + n) with h1 | h1
  · exact h1
  · have h2 := above_some hi h1
    rcases h.few n with h3 | h3 <;> omega
theorem FairI.zero {n b : Nat} {ps : List Int} {la : Int} (hb : 1 ≤ b) : FairI n b ⟨ps, (b : Int), la, []⟩ := ⟨rfl, hb, fun k => .inl (above_none fun i hi => by simp [ageF]; omega)⟩
theorem next_age (c : Ch) (r : List Bool) (i : Nat) : ageF (nextP c r).1 i = if r.getD i false = true ∧ i ≠ (nextP c r).2.1 then ageF c i + 1 else 0 := by
  have h : (nextP c r).1.ages = ageP (fitP c.ages r.length) r (nextP c r).2.1 := by
    unfold nextP; split <;> rfl
  unfold ageF
  rw [h, ageP_getD]
  by_cases hq : r.getD i false = true ∧ i ≠ (nextP c r).2.1
  · rw [if_pos hq, if_pos hq, fitP_getD]
    rcases Nat.lt_or_ge i r.length with h1 | h1
    · exact h1
    · have := hq.1
      rw [List.getD_eq_getElem?_getD, List.getElem?_eq_none h1] at this
      cases this
  · rw [if_neg hq, if_neg hq]
theorem getD_lt {r : List Bool} {i : Nat} (h : r.getD i false = true) : i < r.length := by
  rcases Nat.lt_or_ge i r.length with h1 | h1
  · exact h1
  · rw [List.getD_eq_getElem?_getD, List.getElem?_eq_none h1] at h
    cases h
theorem count_pos {r : List Bool} {i : Nat} (h : r.getD i false = true) : 0 < r.count true := by
  rw [List.count_pos_iff, List.mem_iff_getElem?]
  have hl := getD_lt h
  refine ⟨i, ?_⟩
  rw [List.getD_eq_getElem?_getD, List.getElem?_eq_getElem hl] at h
  rw [List.getElem?_eq_getElem hl]
  exact congrArg some h
theorem next_ok (c : Ch) (r : List Bool) : (nextP c r).2.2 = decide (0 < r.count true) := by
  have hc := lookP_count r (fitP c.ages r.length)
  unfold nextP
  split
  · rename_i h; rw [hc] at h; simp [h]
  · rename_i h; rw [hc] at h; exact (decide_eq_true (by omega)).symm
theorem next_ready {c : Ch} {r : List Bool} (h : 0 < r.count true) : (nextP c r).2.1 < r.length ∧ r.getD (nextP c r).2.1 false = true := by
  have hc := lookP_count r (fitP c.ages r.length)
  unfold nextP
  rw [if_neg (by omega)]
  exact pick_ok _ _ _ _ _ (by omega)
/-- Where some ready one's age is the bound or more, a greatest is chosen. -/
theorem next_oldest {c : Ch} {r : List Bool} {i b : Nat} (hb : c.bound = (b : Int)) (hi : r.getD i false = true) (ha : b ≤ ageF c i) : ageF c i ≤ ageF c (nextP c r).2.1 := by
  have hc := lookP_count r (fitP c.ages r.length)
  have hp := count_pos hi
  have hL := lookP_ok r (fitP c.ages r.length)
  have h0 : 0 < (lookP r (fitP c.ages r.length)).1 := by omega
  have hlt := hL.lt h0
  have hm := hL.most h0 i (getD_lt hi) hi
  rw [fitP_getD _ _ _ (getD_lt hi)] at hm
  have hch : (nextP c r).2.1 = (lookP r (fitP c.ages r.length)).2 := by
    unfold nextP
    rw [if_neg (by omega)]
    dsimp only
    unfold pickP
    rw [if_pos]
    rw [hb]
    have : b ≤ (fitP c.ages r.length).getD (lookP r (fitP c.ages r.length)).2 0 := Nat.le_trans ha hm
    omega
  rw [hch]
  unfold ageF
  rw [fitP_getD _ _ _ hlt] at hm
  exact hm
theorem FairI.next {n b : Nat} {c : Ch} (h : FairI n b c) (r : List Bool) (hr : r.length ≤ n) : FairI n b (nextP c r).1 := by
  refine ⟨?_, h.pos, fun k => ?_⟩
  · rw [← h.bound]; unfold nextP; split <;> rfl
  by_cases hz : ∃ i, i < n ∧ b + k ≤ ageF (nextP c r).1 i
  · obtain ⟨i, hi, ha⟩ := hz
    right
    have hpos := h.pos
    have hri : r.getD i false = true ∧ i ≠ (nextP c r).2.1 := by
      rw [next_age] at ha
      split at ha
      · assumption
      · omega
    have hch := next_ready (c := c) (count_pos hri.1)
    cases k with
    | zero =>
      have h1 : above n (ageF (nextP c r).1) (b + 0) + 1 ≤ (List.range n).countP fun _ => true := by
        refine countP_lt (fun _ _ _ => rfl) ⟨(nextP c r).2.1, List.mem_range.2 (by omega), rfl, ?_⟩
        rw [next_age, if_neg (by simp)]
        simp; omega
      simp at h1
      simpa using h1
    | succ k =>
      have hk : b + k ≤ ageF c i := by rw [next_age, if_pos hri] at ha; omega
      have hold := next_oldest h.bound hri.1 (by omega : b ≤ ageF c i)
      have h1 : above n (ageF (nextP c r).1) (b + (k + 1)) + 1 ≤ above n (ageF c) (b + k) := by
        refine countP_lt (fun x _ hx => ?_) ⟨(nextP c r).2.1, List.mem_range.2 (by omega), by simp; omega, ?_⟩
        · simp only [decide_eq_true_eq] at hx ⊢
          rw [next_age] at hx
          split at hx <;> omega
        · rw [next_age, if_neg (by simp)]
          simp
      rcases h.few k with h2 | h2 <;> omega
  · left
    exact above_none fun i hi => by
      rcases Nat.lt_or_ge (ageF (nextP c r).1 i) (b + k) with h1 | h1
      · exact h1
      · exact absurd ⟨i, hi, h1⟩ hz
/-- The law's list of waits: the first k as behind the call, the rest as ahead of it. -/
def waitK (n : Nat) (A A' : Nat → Nat) (k : Nat) : List Nat := (List.range n).map fun i => if i < k then A' i else A i
theorem waitK_length (n : Nat) (A A' : Nat → Nat) (k : Nat) : (waitK n A A' k).length = n := by simp [waitK]
theorem waitK_at {n k : Nat} (A A' : Nat → Nat) (hk : k < n) : (waitK n A A' k)[k]? = some (A k) := by simp [waitK, hk]
theorem waitK_succ {n k : Nat} (A A' : Nat → Nat) (hk : k < n) : (waitK n A A' k).set k (A' k) = waitK n A A' (k + 1) := by
  apply List.ext_getElem?
  intro j
  rw [List.getElem?_set]
  simp only [waitK, List.getElem?_map, List.length_map, List.length_range]
  by_cases h : k = j
  · subst h
    rw [if_pos rfl, if_pos hk, List.getElem?_range hk]
    simp
  · rw [if_neg h]
    by_cases hj : j < n
    · rw [List.getElem?_range hj]
      simp only [Option.map_some, Option.some.injEq]
      split <;> split <;> first | rfl | omega
    · rw [List.getElem?_eq_none (by simpa using hj)]; rfl
theorem waitK_zero (n : Nat) (A A' : Nat → Nat) : waitK n A A' 0 = waitK n A A 0 := by simp [waitK]
theorem waitK_end (n : Nat) (A A' : Nat → Nat) : waitK n A A' n = waitK n A' A' 0 := by
  unfold waitK
  refine List.map_congr_left fun i hi => ?_
  rw [if_pos (List.mem_range.1 hi)]; simp
theorem waitK_new (n : Nat) (ps : List Int) (b la : Int) : waitK n (ageF ⟨ps, b, la, []⟩) (ageF ⟨ps, b, la, []⟩) 0 = List.replicate n 0 := by
  rw [List.eq_replicate_iff]
  refine ⟨waitK_length _ _ _ _, fun x hx => ?_⟩
  obtain ⟨i, _, rfl⟩ := List.mem_map.1 hx
  simp [ageF]
def anyK (r : List Bool) (k : Nat) : Bool := decide (0 < (r.take k).count true)
theorem anyK_true {r : List Bool} {k : Nat} (h : r.getD k false = true) : anyK r (k + 1) = true := by
  have hl := getD_lt h
  unfold anyK
  rw [List.take_succ_eq_append_getElem hl, List.count_append]
  rw [List.getD_eq_getElem?_getD, List.getElem?_eq_getElem hl] at h
  have : r[k] = true := h
  rw [this]
  simp
theorem anyK_false {r : List Bool} {k : Nat} (h : r.getD k false = false) : anyK r (k + 1) = anyK r k := by
  unfold anyK
  rcases Nat.lt_or_ge k r.length with hl | hl
  · rw [List.take_succ_eq_append_getElem hl, List.count_append]
    rw [List.getD_eq_getElem?_getD, List.getElem?_eq_getElem hl] at h
    have : r[k] = false := h
    rw [this]
    simp
  · rw [List.take_of_length_le hl, List.take_of_length_le (by omega)]
theorem anyK_end {r : List Bool} {n : Nat} (h : r.length ≤ n) : anyK r n = decide (0 < r.count true) := by
  unfold anyK
  rw [List.take_of_length_le h]
end Go.Proofs.Ytagdgecmoeacgaa
