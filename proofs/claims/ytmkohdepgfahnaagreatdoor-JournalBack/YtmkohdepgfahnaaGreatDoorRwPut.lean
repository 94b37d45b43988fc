/- Layer 7 (rows): texts put in one after the other, and texts sorted, each once. -/
import Derived.Test.YtmkohdepgfahnaaGreatDoorRwSort
namespace Go.Proofs.YtmkohdepgfahnaaGreatDoor
open Go.RowKit
set_option linter.unusedVariables false

abbrev Bs := List UInt8
/-- The texts with k among them, as the document puts it. -/
def putR (k : Bs) : Bool → List Bs → List Bs
  | pl, [] => if pl then [] else [k]
  | pl, x :: l => (if !pl && !decide (x < k) then [k] else []) ++ ((if x = k then [] else [x]) ++ putR k (pl || !decide (x < k)) l)
def Rising (l : List Bs) : Prop := l.Pairwise (· < ·)
theorem bs_lt_trans {a b c : Bs} (h1 : a < b) (h2 : b < c) : a < c := List.lt_trans h1 h2
theorem bs_tri (a b : Bs) : a < b ∨ a = b ∨ b < a := by
  rcases Classical.em (a < b) with h | h
  · exact .inl h
  · rcases Classical.em (b < a) with h' | h'
    · exact .inr (.inr h')
    · exact .inr (.inl (List.le_antisymm (List.not_lt.1 h') (List.not_lt.1 h)))
theorem putR_true (k : Bs) : ∀ l : List Bs, (∀ x ∈ l, k ≤ x) → Rising l → putR k true l = l.filter (fun x => decide (x ≠ k))
  | [], _, _ => rfl
  | x :: l, h, hr => by
    have h2 := putR_true k l (fun y hy => h y (List.mem_cons_of_mem _ hy)) (List.Pairwise.of_cons hr)
    unfold putR
    rw [Bool.true_or, h2]
    by_cases hx : x = k <;> simp [hx]
theorem putR_mem (k : Bs) : ∀ (l : List Bs) (pl : Bool) (y : Bs), y ∈ putR k pl l → y = k ∨ (y ∈ l)
  | [], pl, y, h => by
    unfold putR at h
    cases pl
    · simp at h; exact .inl h
    · simp at h
  | x :: l, pl, y, h => by
    unfold putR at h
    rcases List.mem_append.1 h with h | h
    · split at h
      · simp at h; exact .inl h
      · simp at h
    · rcases List.mem_append.1 h with h | h
      · split at h
        · simp at h
        · simp at h; exact .inr (by simp [h])
      · rcases putR_mem k l _ y h with h | h
        · exact .inl h
        · exact .inr (List.mem_cons_of_mem _ h)
theorem putR_keeps (k : Bs) : ∀ (l : List Bs) (pl : Bool) (y : Bs), y ∈ l → y ≠ k → y ∈ putR k pl l
  | [], pl, y, h, _ => by simp at h
  | x :: l, pl, y, h, hn => by
    unfold putR
    rcases List.mem_cons.1 h with rfl | h
    · simp [hn]
    · have := putR_keeps k l (pl || !decide (x < k)) y h hn
      simp only [List.mem_append]
      exact .inr (.inr this)
theorem putR_has (k : Bs) : ∀ (l : List Bs), k ∈ putR k false l
  | [] => by simp [putR]
  | x :: l => by
    unfold putR
    by_cases h : x < k
    · have := putR_has k l
      simp only [List.mem_append]
      exact .inr (.inr (by simpa [h] using this))
    · simp [h]
theorem putR_after (k : Bs) : ∀ (l : List Bs), (∀ x ∈ l, k ≤ x) → Rising l → Rising (putR k true l) ∧ ∀ y ∈ putR k true l, k < y := by
  intro l h hr
  rw [putR_true k l h hr]
  refine ⟨List.Pairwise.filter _ hr, fun y hy => ?_⟩
  rw [List.mem_filter] at hy
  have h1 := h y hy.1
  have h2 : y ≠ k := by simpa using hy.2
  rcases bs_tri k y with h3 | h3 | h3
  · exact h3
  · exact absurd h3.symm h2
  · exact absurd h3 (List.not_lt.2 h1)
theorem putR_rising (k : Bs) : ∀ (l : List Bs), Rising l → Rising (putR k false l)
  | [], _ => by simp [putR, Rising]
  | x :: l, hr => by
    have hr2 : Rising l := List.Pairwise.of_cons hr
    have hx : ∀ y ∈ l, x < y := fun y hy => List.rel_of_pairwise_cons hr hy
    unfold putR
    by_cases h : x < k
    · have ih := putR_rising k l hr2
      have hne : x ≠ k := fun e => by subst e; exact List.lt_irrefl x h
      simp only [h, hne, decide_true, Bool.not_true, Bool.and_false, Bool.or_false, if_false, List.nil_append, Bool.false_eq_true]
      show Rising (x :: putR k false l)
      refine List.Pairwise.cons (fun y hy => ?_) ih
      rcases putR_mem k l false y hy with rfl | hy
      · exact h
      · exact hx y hy
    · have hk : k ≤ x := List.not_lt.1 h
      have ha : ∀ y ∈ l, k ≤ y := fun y hy => List.not_lt.1 fun hl => h (bs_lt_trans (hx y hy) hl)
      obtain ⟨h1, h2⟩ := putR_after k l ha hr2
      simp only [h, decide_false, Bool.not_false, Bool.and_true, Bool.or_true, if_true]
      by_cases hxk : x = k
      · simp only [hxk, if_true, List.nil_append]
        exact List.Pairwise.cons h2 h1
      · simp only [hxk, if_false]
        have hlt : k < x := by
          rcases bs_tri k x with h3 | h3 | h3
          · exact h3
          · exact absurd h3.symm hxk
          · exact absurd h3 h
        refine List.Pairwise.cons (fun y hy => ?_) (List.Pairwise.cons (fun y hy => ?_) h1)
        · rcases List.mem_cons.1 hy with rfl | hy
          · exact hlt
          · exact h2 y hy
        · rcases putR_mem k l true y hy with rfl | hy'
          · exact absurd (h2 y hy) (List.lt_irrefl y)
          · exact hx y hy'
/-- All of them, one after the other. -/
def putAll (ks : List Bs) : List Bs := ks.foldl (fun l k => putR k false l) []
theorem putAll_snoc (ks : List Bs) (k : Bs) : putAll (ks ++ [k]) = putR k false (putAll ks) := by
  unfold putAll
  rw [List.foldl_append]
  rfl
theorem foldl_rising (ks : List Bs) : ∀ l : List Bs, Rising l → Rising (ks.foldl (fun l k => putR k false l) l) ∧ ∀ y, y ∈ ks.foldl (fun l k => putR k false l) l ↔ y ∈ l ∨ y ∈ ks := by
  induction ks with
  | nil => intro l hl; exact ⟨hl, fun y => by simp⟩
  | cons k ks ih =>
    intro l hl
    obtain ⟨h1, h2⟩ := ih (putR k false l) (putR_rising k l hl)
    refine ⟨h1, fun y => ?_⟩
    rw [List.foldl_cons, h2]
    constructor
    · rintro (h | h)
      · rcases putR_mem k l false y h with rfl | h
        · simp
        · simp [h]
      · simp [h]
    · rintro (h | h)
      · by_cases e : y = k
        · subst e; exact .inl (putR_has _ _)
        · exact .inl (putR_keeps k l false y h e)
      · rcases List.mem_cons.1 h with rfl | h
        · exact .inl (putR_has _ _)
        · exact .inr h
theorem putAll_rising (ks : List Bs) : Rising (putAll ks) := (foldl_rising ks [] List.Pairwise.nil).1
theorem putAll_mem (ks : List Bs) (y : Bs) : y ∈ putAll ks ↔ y ∈ ks := by
  have := (foldl_rising ks [] List.Pairwise.nil).2 y
  unfold putAll
  simpa using this
theorem rising_uniq {a b : List Bs} (ha : Rising a) (hb : Rising b) (h : ∀ y, y ∈ a ↔ y ∈ b) : a = b := by
  have na : a.Nodup := ha.imp fun h e => by subst e; exact List.lt_irrefl _ h
  have nb : b.Nodup := hb.imp fun h e => by subst e; exact List.lt_irrefl _ h
  refine List.Perm.eq_of_pairwise (le := (· < ·)) (fun x y _ _ h1 h2 => absurd (bs_lt_trans h1 h2) (List.lt_irrefl _)) ha hb ((List.perm_ext_iff_of_nodup na nb).2 h)
open Lib in
theorem compact_rising (zs : List Bs) (h : zs.Pairwise (· ≤ ·)) : Rising (compact zs) := by
  unfold Rising compact compactUpTo
  rw [List.pairwise_map]
  have h0 : (List.range zs.length).Pairwise (· < ·) := List.pairwise_lt_range
  have hle : ∀ i j, i ≤ j → j < zs.length → zs.toArray[i]! ≤ zs.toArray[j]! := by
    intro i j hij hj
    rw [getElem!_pos zs.toArray i (by simpa using (by omega : i < zs.length)), getElem!_pos zs.toArray j (by simpa using hj)]
    simp only [List.getElem_toArray]
    rcases Nat.lt_or_ge i j with h' | h'
    · exact List.pairwise_iff_getElem.1 h i j _ _ h'
    · have : i = j := by omega
      subst this
      exact List.le_refl _
  have hm : ∀ x ∈ List.filter (keeps zs.toArray) (List.range zs.length), x < zs.length ∧ keeps zs.toArray x = true := by
    intro x hx
    rw [List.mem_filter, List.mem_range] at hx
    exact hx
  refine List.Pairwise.imp_of_mem (fun {a b} ha hb hab => ?_) (List.Pairwise.filter _ h0)
  obtain ⟨hb1, hb2⟩ := hm b hb
  unfold keeps at hb2
  rw [decide_eq_true_eq] at hb2
  have hb3 : zs.toArray[b]! ≠ zs.toArray[b - 1]! := by
    rcases hb2 with e | e
    · omega
    · exact e
  have h1 := hle a (b - 1) (by omega) (by omega)
  have h2 := hle (b - 1) b (by omega) hb1
  rcases bs_tri zs.toArray[a]! zs.toArray[b]! with h3 | h3 | h3
  · exact h3
  · refine absurd ?_ hb3
    refine List.le_antisymm ?_ h2
    rw [← h3]; exact h1
  · exact absurd h3 (List.not_lt.2 (List.le_trans h1 h2))
open Lib in
theorem compact_mem (zs : List Bs) (y : Bs) : y ∈ compact zs ↔ y ∈ zs := by
  unfold compact compactUpTo
  constructor
  · intro h
    obtain ⟨i, hi, rfl⟩ := List.mem_map.1 h
    rw [List.mem_filter, List.mem_range] at hi
    rw [getElem!_pos zs.toArray i (by simpa using hi.1)]
    simp only [List.getElem_toArray]
    exact List.getElem_mem _
  · intro h
    obtain ⟨i, hi, rfl⟩ := List.getElem_of_mem h
    clear h
    induction i with
    | zero =>
      refine List.mem_map.2 ⟨0, ?_, ?_⟩
      · rw [List.mem_filter, List.mem_range]; exact ⟨hi, by simp [keeps]⟩
      · rw [getElem!_pos zs.toArray 0 (by simpa using hi)]; simp
    | succ i ih =>
      by_cases e : zs[i + 1] = zs[i]
      · rw [e]; exact ih (by omega)
      · refine List.mem_map.2 ⟨i + 1, ?_, ?_⟩
        · rw [List.mem_filter, List.mem_range]
          refine ⟨hi, ?_⟩
          unfold keeps
          rw [decide_eq_true_eq]
          right
          rw [getElem!_pos zs.toArray (i + 1) (by simpa using hi), getElem!_pos zs.toArray (i + 1 - 1) (by simp; omega)]
          simpa using e
        · rw [getElem!_pos zs.toArray (i + 1) (by simpa using hi)]; simp
/-- Sorted and each once is what is put in one after the other. -/
theorem compact_putAll (ks : List Bs) : Lib.compact (ks.mergeSort fun x y => decide (x ≤ y)) = putAll ks := by
  refine rising_uniq (compact_rising _ ?_) (putAll_rising ks) (fun y => ?_)
  · have := List.pairwise_mergeSort (le := fun (x y : Bs) => decide (x ≤ y)) (fun a b c h1 h2 => by simp only [decide_eq_true_eq] at *; exact List.le_trans h1 h2) (fun a b => by simp only [Bool.or_eq_true, decide_eq_true_eq]; exact List.le_total a b) ks
    exact this.imp fun h => by simpa using h
  · rw [compact_mem, List.mem_mergeSort, putAll_mem]
end Go.Proofs.YtmkohdepgfahnaaGreatDoor
