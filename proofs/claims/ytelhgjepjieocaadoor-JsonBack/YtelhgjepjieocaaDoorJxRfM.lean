/- Layer 18 (json): the number at the front, by the document's words: it is what the program's reader takes. -/
import Derived.Test.YtelhgjepjieocaaDoorJxRfN
namespace Go.Proofs.YtelhgjepjieocaaDoor
open Go.RowKit Go.Sort
set_option linter.unusedVariables false

def digs (l : List UInt8) : List UInt8 := (tkL l 45).takeWhile dgU
def docN (l : List UInt8) : Option (Int × List UInt8) :=
  if digs l = [] ∨ 19 < (digs l).length ∨ (1 < (digs l).length ∧ hdN (digs l) = some 48) ∨ (hdN l = some 45 ∧ valD 0 (digs l) = 0) then none
  else if hdN l = some 45 then (if 9223372036854775808 < valD 0 (digs l) then none else some (-(valD 0 (digs l) : Int), numR l))
  else (if 9223372036854775807 < valD 0 (digs l) then none else some ((valD 0 (digs l) : Int), numR l))
theorem takeWhile_all (p : UInt8 → Bool) : ∀ (l : List UInt8), ∀ x ∈ l.takeWhile p, p x = true
  | [], x, h => by cases h
  | y :: l, x, h => by
    rw [List.takeWhile_cons] at h
    split at h
    · rcases List.mem_cons.1 h with rfl | h
      · assumption
      · exact takeWhile_all p l x h
    · cases h
theorem digs_dig (l : List UInt8) : Dig (digs l) := fun c hc => by
  have h : dgU c = true := takeWhile_all _ _ c hc
  unfold dgU dgN at h
  simp at h
  exact h
theorem itoa_neg' {u : Nat} (h : 1 ≤ u) : Lib.itoa (-(u : Int)) = 45 :: Lib.decDigits u := Lib.itoa_neg u h
theorem numP_doc (l : List UInt8) : numP l = (docN l).map fun p => (3, p.1, p.2) := by
  have hD := digs_dig l
  have hT : numT l = (if hdN l = some 45 then [45] else []) ++ digs l := rfl
  unfold numP docN
  rw [hT]
  generalize digs l = D at hD ⊢
  by_cases h0 : D = []
  · rw [if_pos (Or.inl h0 : D = [] ∨ 19 < D.length ∨ (1 < D.length ∧ hdN D = some 48) ∨ (hdN l = some 45 ∧ valD 0 D = 0))]
    subst h0
    by_cases hn : hdN l = some 45
    · rw [if_pos hn]; rfl
    · rw [if_neg hn]; rfl
  obtain ⟨c, r, rfl⟩ : ∃ c r, D = c :: r := by
    cases D with
    | nil => exact absurd rfl h0
    | cons c r => exact ⟨c, r, rfl⟩
  have hc := hD c (List.mem_cons_self ..)
  have hP : Lib.parseIntB 64 ((if hdN l = some 45 then [45] else []) ++ c :: r) = (match Lib.parseUintM 18446744073709551615 0 (c :: r) with
      | .«syntax» => .«syntax»
      | .range => .range
      | .ok u => if ¬ (hdN l = some 45) ∧ 9223372036854775808 ≤ u then .range else if hdN l = some 45 ∧ 9223372036854775808 < u then .range else .ok (if hdN l = some 45 then -(u : Int) else u)) := by
    by_cases hn : hdN l = some 45
    · rw [if_pos hn]
      show (match Lib.parseUintB 64 (c :: r) with | .«syntax» => _ | .range => _ | .ok u => _) = _
      show (match Lib.parseUintM 18446744073709551615 0 (c :: r) with | .«syntax» => _ | .range => _ | .ok u => _) = _
      cases Lib.parseUintM 18446744073709551615 0 (c :: r) with
      | ok u => simp [hn]
      | range => rfl
      | «syntax» => rfl
    · rw [if_neg hn]
      have h1 : ¬ (c.toNat = 43 ∨ c.toNat = 45) := by omega
      have h2 : ¬ c.toNat = 45 := by omega
      show (match Lib.parseUintB 64 (if c.toNat = 43 ∨ c.toNat = 45 then r else c :: r) with | .«syntax» => _ | .range => _ | .ok u => _) = _
      rw [if_neg h1]
      show (match Lib.parseUintM 18446744073709551615 0 (c :: r) with | .«syntax» => _ | .range => _ | .ok u => _) = _
      cases Lib.parseUintM 18446744073709551615 0 (c :: r) with
      | ok u => simp [hn, h2]
      | range => rfl
      | «syntax» => rfl
  rw [hP]
  clear hP h0
  by_cases hz : 1 < (c :: r).length ∧ hdN (c :: r) = some 48
  · rw [if_pos (Or.inr (Or.inr (Or.inl hz)) : (c :: r) = [] ∨ 19 < (c :: r).length ∨ (1 < (c :: r).length ∧ hdN (c :: r) = some 48) ∨ (hdN l = some 45 ∧ valD 0 (c :: r) = 0))]
    cases Lib.parseUintM 18446744073709551615 0 (c :: r) with
    | range => rfl
    | «syntax» => rfl
    | ok u =>
      have hne : Lib.decDigits u ≠ c :: r := fun e => (dec_can u).1.2 (by rw [e]; exact hz)
      by_cases hn : hdN l = some 45
      · simp only [hn, not_true_eq_false, false_and, if_false, true_and, if_true]
        by_cases hb : 9223372036854775808 < u
        · rw [if_pos hb]; rfl
        · rw [if_neg hb]
          show (if Lib.itoa (-(u : Int)) = 45 :: c :: r then _ else none) = none
          rw [if_neg]
          intro e
          by_cases hu : u = 0
          · subst hu
            have e1 : Lib.itoa (-((0 : Nat) : Int)) = [48] := by show Lib.itoa 0 = _; rw [show (0 : Int) = ((0 : Nat) : Int) from rfl, Lib.itoa_nonneg, Lib.decDigits_one (by omega)]; rfl
            rw [e1] at e
            cases e
          · rw [itoa_neg' (by omega)] at e
            exact hne (List.cons.inj e).2
      · simp only [hn, not_false_eq_true, true_and, false_and, if_false]
        by_cases hb : 9223372036854775808 ≤ u
        · rw [if_pos hb]; rfl
        · rw [if_neg hb]
          show (if Lib.itoa (u : Int) = c :: r then _ else none) = none
          rw [if_neg]
          rw [Lib.itoa_nonneg]
          exact hne
  · have hcan : Can (c :: r) := ⟨by simp, hz⟩
    have hdec := dec_val _ (c :: r) rfl hD hcan
    by_cases h19 : 19 < (c :: r).length
    · rw [if_pos (Or.inr (Or.inl h19) : (c :: r) = [] ∨ 19 < (c :: r).length ∨ (1 < (c :: r).length ∧ hdN (c :: r) = some 48) ∨ (hdN l = some 45 ∧ valD 0 (c :: r) = 0))]
      have hx : c.toNat ≠ 48 := fun e => hz ⟨by omega, by show some c.toNat = _; rw [e]⟩
      have h1 := valD_pos hD hx
      have h2 : 10 ^ 19 ≤ 10 ^ r.length := Nat.pow_le_pow_right (by omega) (by simp at h19; omega)
      have h3 : 10000000000000000000 ≤ valD 0 (c :: r) := Nat.le_trans h2 h1
      cases hp : Lib.parseUintM 18446744073709551615 0 (c :: r) with
      | range => rfl
      | «syntax» => rfl
      | ok u =>
        have hu := parse_is _ _ _ _ hp
        rw [← hu] at h3
        by_cases hn : hdN l = some 45
        · simp only [hn, not_true_eq_false, false_and, if_false, true_and, if_true]
          rw [if_pos (by omega)]; rfl
        · simp only [hn, not_false_eq_true, true_and, false_and, if_false]
          rw [if_pos (by omega)]; rfl
    · have h1 := valD_lt (c :: r) 0 hD
      have h2 : 10 ^ (c :: r).length ≤ 10 ^ 19 := Nat.pow_le_pow_right (by omega) (by omega)
      have h3 : valD 0 (c :: r) < 10000000000000000000 := by
        rw [Nat.zero_add, Nat.one_mul] at h1
        exact Nat.lt_of_lt_of_le h1 h2
      rw [parse_val 18446744073709551615 (Nat.le_refl _) (c :: r) 0 hD (by omega)]
      generalize valD 0 (c :: r) = u at hdec h3 ⊢
      clear h1 h2
      by_cases hn : hdN l = some 45
      · simp only [hn, not_true_eq_false, false_and, if_false, true_and, if_true]
        by_cases hu : u = 0
        · subst hu
          rw [if_pos (show (c :: r = [] ∨ 19 < (c :: r).length ∨ (1 < (c :: r).length ∧ hdN (c :: r) = some 48) ∨ (0 : Nat) = 0) from .inr (.inr (.inr rfl)))]
          rw [if_neg (show ¬ (9223372036854775808 < (0 : Nat)) by omega)]
          have e1 : Lib.itoa (-((0 : Nat) : Int)) = [48] := by show Lib.itoa 0 = _; rw [show (0 : Int) = ((0 : Nat) : Int) from rfl, Lib.itoa_nonneg, Lib.decDigits_one (by omega)]; rfl
          show (if Lib.itoa (-((0 : Nat) : Int)) = 45 :: c :: r then _ else none) = none
          rw [e1, if_neg (by intro e; cases e)]
        · rw [if_neg (show ¬ (c :: r = [] ∨ 19 < (c :: r).length ∨ (1 < (c :: r).length ∧ hdN (c :: r) = some 48) ∨ u = 0) from fun h => by
            rcases h with h | h | h | h
            · cases h
            · exact h19 h
            · exact hz h
            · exact hu h)]
          by_cases hb : 9223372036854775808 < u
          · rw [if_pos hb, if_pos hb]; rfl
          · rw [if_neg hb, if_neg hb]
            show (if Lib.itoa (-(u : Int)) = 45 :: c :: r then _ else none) = _
            rw [if_pos (by rw [itoa_neg' (by omega), hdec])]; rfl
      · simp only [hn, not_false_eq_true, true_and, false_and, if_false]
        rw [if_neg (show ¬ (c :: r = [] ∨ 19 < (c :: r).length ∨ (1 < (c :: r).length ∧ hdN (c :: r) = some 48) ∨ False) from fun h => by
            rcases h with h | h | h | h
            · cases h
            · exact h19 h
            · exact hz h
            · exact h)]
        by_cases hb : 9223372036854775808 ≤ u
        · rw [if_pos hb, if_pos (by omega)]; rfl
        · rw [if_neg hb, if_neg (by omega)]
          show (if Lib.itoa (u : Int) = c :: r then _ else none) = _
          rw [if_pos (by rw [Lib.itoa_nonneg, hdec])]; rfl
end Go.Proofs.YtelhgjepjieocaaDoor
