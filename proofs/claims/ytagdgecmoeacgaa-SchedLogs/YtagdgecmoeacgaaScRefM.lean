/- Layer 17 (sched), plain: the document's chooser, its ages out of the whole history. -/
import Derived.Test.YtagdgecmoeacgaaScNxt
import Derived.Test.YtagdgecmoeacgaaScFairM
namespace Go.Proofs.Ytagdgecmoeacgaa
open Go.RowKit
set_option linter.unusedVariables false

/-- A call in the history: where its list lies, what it holds, who was chosen (-1: nobody). -/
structure He where
  ao : Option Addr
  cap : Nat
  r : List Bool
  ch : Int
/-- The age by the first k calls. -/
def ageT (H : List He) (a : Nat) : Nat → Nat
  | 0 => 0
  | k + 1 => match H[k]? with
    | some x => if x.r.getD a false = true ∧ x.ch ≠ (a : Int) then ageT H a k + 1 else 0
    | none => 0
def lastT (H : List He) : Nat → Int
  | 0 => -1
  | k + 1 => match H[k]? with
    | some x => if 0 ≤ x.ch then x.ch else lastT H k
    | none => lastT H k
theorem ageT_le (H : List He) (a : Nat) : ∀ k, ageT H a k ≤ k
  | 0 => Nat.le_refl _
  | k + 1 => by
    have := ageT_le H a k
    unfold ageT
    split
    · split <;> omega
    · omega
theorem ageT_more {H : List He} {x : He} {a : Nat} : ∀ k, k ≤ H.length → ageT (H ++ [x]) a k = ageT H a k
  | 0, _ => rfl
  | k + 1, h => by
    unfold ageT
    rw [List.getElem?_append_left (by omega), ageT_more k (by omega)]
theorem lastT_more {H : List He} {x : He} : ∀ k, k ≤ H.length → lastT (H ++ [x]) k = lastT H k
  | 0, _ => rfl
  | k + 1, h => by
    unfold lastT
    rw [List.getElem?_append_left (by omega), lastT_more k (by omega)]
/-- The chooser is the document's behind these calls. -/
structure RefR (c : Ch) (H : List He) : Prop where
  age : ∀ a, ageF c a = ageT H a H.length
  last : c.last = lastT H H.length
def chI (q : Ch × Nat × Bool) : Int := if q.2.2 = true then (q.2.1 : Int) else -1
theorem RefR.new (ps : List Int) (b : Int) : RefR ⟨ps, b, -1, []⟩ [] := ⟨fun a => by simp [ageF, ageT], rfl⟩
theorem RefR.next {c : Ch} {H : List He} (h : RefR c H) (x : He) (hc : x.ch = chI (nextP c x.r)) : RefR (nextP c x.r).1 (H ++ [x]) := by
  refine ⟨fun a => ?_, ?_⟩
  · rw [List.length_append, List.length_singleton]
    unfold ageT
    rw [List.getElem?_append_right (Nat.le_refl _), Nat.sub_self]
    dsimp only [List.getElem?_cons_zero]
    rw [ageT_more _ (Nat.le_refl _), ← h.age, next_age]
    by_cases hr : x.r.getD a false = true
    · have h0 := count_pos hr
      have hok : (nextP c x.r).2.2 = true := by rw [next_ok]; exact decide_eq_true h0
      have he : x.ch = ((nextP c x.r).2.1 : Int) := by rw [hc, chI, if_pos hok]
      rw [he]
      by_cases ha : a = (nextP c x.r).2.1
      · rw [if_neg (by simp [ha]), if_neg (by simp [ha])]
      · rw [if_pos ⟨hr, ha⟩, if_pos ⟨hr, by omega⟩]
    · rw [if_neg (fun hh => hr hh.1), if_neg (fun hh => hr hh.1)]
  · rw [List.length_append, List.length_singleton]
    unfold lastT
    rw [List.getElem?_append_right (Nat.le_refl _), Nat.sub_self]
    dsimp only [List.getElem?_cons_zero]
    rw [lastT_more _ (Nat.le_refl _), ← h.last, hc]
    unfold chI
    rw [nextP_eq]
    dsimp only
    by_cases hok : (chooseP ⟨c.picks, c.bound, c.last, fitP c.ages x.r.length⟩ x.r).2.2 = true
    · rw [if_pos hok, if_pos hok, if_pos (by omega)]
    · rw [if_neg hok, if_neg hok, if_neg (by omega)]
/-- Who is ready, from place o on. -/
def whoF : List Bool → Nat → List Nat
  | [], _ => []
  | true :: r, o => o :: whoF r (o + 1)
  | false :: r, o => whoF r (o + 1)
theorem whoF_length : ∀ (r : List Bool) (o : Nat), (whoF r o).length = r.count true
  | [], _ => rfl
  | true :: r, o => by simp [whoF, whoF_length r]
  | false :: r, o => by simp [whoF, whoF_length r]
theorem whoF_at : ∀ (r : List Bool) (o p : Nat), p < r.count true → (whoF r o)[p]? = some (o + atP r p)
  | [], _, p, h => by simp at h
  | true :: r, o, 0, _ => by simp [whoF, atP]
  | true :: r, o, p + 1, h => by
    have := whoF_at r (o + 1) p (by simpa using h)
    simp only [whoF, atP, List.getElem?_cons_succ, this]
    congr 1; omega
  | false :: r, o, p, h => by
    have := whoF_at r (o + 1) p (by simpa using h)
    simp only [whoF, atP, this]
    congr 1; omega
/-- The first above last, else d. -/
def selF (last : Int) (d : Nat) : List Nat → Nat
  | [] => d
  | a :: l => if last < (a : Int) then a else selF last d l
theorem selF_who : ∀ (r : List Bool) (o l d : Nat), selF ((l : Int) - 1) d (whoF r o) = if (l - o) + ftB (r.drop (l - o)) < r.length then o + (l - o) + ftB (r.drop (l - o)) else d
  | [], o, l, d => by simp [whoF, selF]
  | b :: r, o, l, d => by
    rcases Nat.lt_or_ge o l with h | h
    · have ih := selF_who r (o + 1) l d
      have e : (b :: r).drop (l - o) = r.drop (l - (o + 1)) := by
        rw [show l - o = (l - (o + 1)) + 1 by omega, List.drop_succ_cons]
      have hs : selF ((l : Int) - 1) d (whoF (b :: r) o) = selF ((l : Int) - 1) d (whoF r (o + 1)) := by
        cases b with
        | false => rfl
        | true =>
          show (if (l : Int) - 1 < (o : Int) then o else _) = _
          rw [if_neg (by omega)]
      rw [hs, ih, e, List.length_cons]
      by_cases hc : l - (o + 1) + ftB (r.drop (l - (o + 1))) < r.length
      · rw [if_pos hc, if_pos (by omega)]; omega
      · rw [if_neg hc, if_neg (by omega)]
    · have e0 : l - o = 0 := by omega
      rw [e0, List.drop_zero]
      cases b with
      | true =>
        show (if (l : Int) - 1 < (o : Int) then o else _) = _
        rw [if_pos (by omega), if_pos (by simp [ftB])]
        simp [ftB]
      | false =>
        have ih := selF_who r (o + 1) l d
        rw [show l - (o + 1) = 0 by omega, List.drop_zero] at ih
        show selF _ d (whoF r (o + 1)) = _
        rw [ih]
        have ef : ftB (false :: r) = ftB r + 1 := rfl
        by_cases hc : 0 + ftB r < r.length
        · rw [if_pos hc, if_pos (by rw [ef, List.length_cons]; omega), ef]; omega
        · rw [if_neg hc, if_neg (by rw [ef, List.length_cons]; omega)]
theorem selF_beh {r : List Bool} (l : Nat) (h : 0 < r.count true) : selF ((l : Int) - 1) (ftB r) (whoF r 0) = behP r l := by
  rw [selF_who, Nat.sub_zero, Nat.zero_add]; rfl
theorem who_first {r : List Bool} (h : 0 < r.count true) : (whoF r 0)[0]? = some (ftB r) := by
  rw [whoF_at r 0 0 h, Nat.zero_add]
  congr 1
  have : ∀ r : List Bool, 0 < r.count true → atP r 0 = ftB r := by
    intro r
    induction r with
    | nil => intro h; simp at h
    | cons b r ih =>
      intro h
      cases b with
      | true => rfl
      | false =>
        have := ih (by simpa using h)
        simp [atP, ftB, this]
  exact this r h
end Go.Proofs.Ytagdgecmoeacgaa
