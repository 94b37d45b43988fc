/- Layer 18 (json): what is read is no longer than what was there. -/
import Derived.Test.YtelhgjepjieocaaDoorJxWhI
namespace Go.Proofs.YtelhgjepjieocaaDoor
open Go.RowKit Go.Sort
set_option linter.unusedVariables false

theorem tkL_len (l : List UInt8) (c : Nat) : (tkL l c).length ≤ l.length := by unfold tkL; split <;> simp
theorem numP_len {l r : List UInt8} {k n : Int} (h : numP l = some (k, n, r)) : r.length ≤ l.length := by
  have hr : (numR l).length ≤ l.length := by
    have := congrArg List.length (numT_R l)
    rw [List.length_append] at this
    omega
  unfold numP at h
  split at h
  · split at h
    · simp only [Option.some.injEq, Prod.mk.injEq] at h
      rw [← h.2.2]; exact hr
    · cases h
  · cases h
theorem wordP_len {l r : List UInt8} {k n : Int} (h : wordP l = some (k, n, r)) : r.length ≤ l.length := by
  unfold wordP at h
  split at h
  · simp only [Option.some.injEq, Prod.mk.injEq] at h
    rw [← h.2.2, List.length_drop]; omega
  · split at h
    · simp only [Option.some.injEq, Prod.mk.injEq] at h
      rw [← h.2.2, List.length_drop]; omega
    · split at h
      · simp only [Option.some.injEq, Prod.mk.injEq] at h
        rw [← h.2.2, List.length_drop]; omega
      · cases h
theorem chF_len : ∀ (k : Nat) {l t r : List UInt8}, chF k l = some (t, r) → r.length ≤ l.length
  | 0, l, t, r, h => by cases h
  | k + 1, l, t, r, h => by
    by_cases h34 : hdN l = some 34
    · rw [chF_end h34] at h
      simp only [Option.some.injEq, Prod.mk.injEq] at h
      rw [← h.2]; simp
    · rw [chF_step h34] at h
      cases hc : charP l with
      | none => rw [hc] at h; cases h
      | some p =>
        obtain ⟨c, r'⟩ := p
        rw [hc] at h
        have e9 : chS k (some (c, r')) = (chF k r').map fun p => (c.toUInt8 :: p.1, p.2) := rfl
        rw [e9] at h
        cases hk : chF k r' with
        | none => rw [hk] at h; cases h
        | some q =>
          obtain ⟨t', r2⟩ := q
          rw [hk] at h
          simp only [Option.map_some, Option.some.injEq, Prod.mk.injEq] at h
          have h1 := chF_len k hk
          have h2 := (charP_len hc).2
          rw [← h.2]; omega
theorem textP_len {l t r : List UInt8} (h : textP l = some (t, r)) : r.length < l.length := by
  unfold textP at h
  split at h
  · have h1 := chF_len _ h
    cases l with
    | nil => rename_i h2; cases h2
    | cons x l => simp at h1 ⊢; omega
  · cases h
theorem nameP_len {ns : List (List UInt8)} {l t r : List UInt8} (h : nameP ns l = .ok (t, r)) : r.length ≤ l.length := by
  unfold nameP at h
  have h0 := spL_len l
  split at h
  · cases h
  · rename_i t' r' ht
    have h1 := textP_len ht
    split at h
    · cases h
    · split at h
      · cases h
        have := spL_len r'
        simp; omega
      · cases h
theorem nameP_err {ns : List (List UInt8)} {l : List UInt8} {c : Int} (h : nameP ns l = .error c) : c = 181 ∨ c = 182 ∨ c = 183 := by
  unfold nameP at h
  split at h
  · cases h; exact .inl rfl
  · split at h
    · cases h; exact .inr (.inr rfl)
    · split at h
      · cases h
      · cases h; exact .inl rfl
theorem bareF_lens : ∀ (k : Nat), (∀ (d : Nat) (l : List UInt8) (x : Js) (r : List UInt8), bareF k d l = .ok (x, r) → r.length ≤ l.length) ∧ (∀ (kind : Int) (e d : Nat) (l : List UInt8) (ns : List (List UInt8)) (its : List Js) (x : Js) (r : List UInt8), elF k kind e d l ns its = .ok (x, r) → r.length ≤ l.length)
  | 0 => ⟨fun d l x r h => (by unfold bareF at h; cases h), fun kind e d l ns its x r h => (by unfold elF at h; cases h)⟩
  | k + 1 => by
    obtain ⟨ih1, ih2⟩ := bareF_lens k
    refine ⟨fun d l x r h => ?_, fun kind e d l ns its x r h => ?_⟩
    · unfold bareF at h
      have h0 := spL_len l.tail
      have h00 : l.tail.length ≤ l.length := by simp
      have hw : ∀ (kind : Int) (e : Nat), (if d = 16 then Except.error 182 else if hdN (spL l.tail) = some e then .ok (.mk kind 0 [] [] [], (spL l.tail).tail) else elF k kind e d (spL l.tail) [] []) = Except.ok (x, r) → r.length ≤ l.length := fun kind e h => by
        split at h
        · cases h
        · split at h
          · cases h; simp at h00 ⊢; simp at h0; omega
          · have := ih2 _ _ _ _ _ _ _ _ h; omega
      split at h
      · exact hw _ _ h
      · split at h
        · exact hw _ _ h
        · split at h
          · cases ht : textP l with
            | none => rw [ht] at h; cases h
            | some p =>
              obtain ⟨t, r'⟩ := p
              rw [ht] at h
              cases h
              have := textP_len ht; omega
          · split at h
            · cases ht : numP l with
              | none => rw [ht] at h; cases h
              | some p =>
                obtain ⟨a, b, r'⟩ := p
                rw [ht] at h
                cases h
                exact numP_len ht
            · cases ht : wordP l with
              | none => rw [ht] at h; cases h
              | some p =>
                obtain ⟨a, b, r'⟩ := p
                rw [ht] at h
                cases h
                exact wordP_len ht
    · unfold elF at h
      have hn : ∀ ns' l1, elN kind ns l = .ok (ns', l1) → l1.length ≤ l.length := fun ns' l1 h => by
        unfold elN at h
        split at h
        · split at h
          · rename_i hq; cases h; exact nameP_len hq
          · cases h
        · cases h; exact Nat.le_refl _
      split at h
      · cases h
      · rename_i ns' l1 hq
        have h1 := hn _ _ hq
        split at h
        · cases h
        · rename_i y r1 hb
          have h2 := ih1 _ _ _ _ hb
          have h3 := spL_len l1
          have h4 := spL_len r1
          split at h
          · cases h; simp; omega
          · split at h
            · have h5 := ih2 _ _ _ _ _ _ _ _ h
              simp at h5; omega
            · cases h
end Go.Proofs.YtelhgjepjieocaaDoor
