import Derived.Test.YtelhgjepjieocaaDoorJxRfN
import Derived.Test.YtelhgjepjieocaaDoorJxSame
import Derived.Test.YtelhgjepjieocaaDoorJxParse
/- Layer 18 (json): the number at the front, by the document's words: it is what the program's reader takes. -/
namespace Go.Proofs.YtelhgjepjieocaaDoor
open Go.RowKit Go.Sort
set_option linter.unusedVariables false

def digs (l : List UInt8) : List UInt8 := (tkL l 45).takeWhile dgU
def docN (l : List UInt8) : Option (Int × List UInt8) :=
  if digs l = [] ∨ 19 < (digs l).length ∨ (1 < (digs l).length ∧ hdN (digs l) = some 48) ∨ (hdN l = some 45 ∧ valD 0 (digs l) = 0) then none
  else if hdN l = some 45 then (if 9223372036854775808 < valD 0 (digs l) then none else some (-(valD 0 (digs l) : Int), numR l))
  else (if 9223372036854775807 < valD 0 (digs l) then none else some ((valD 0 (digs l) : Int), numR l))
theorem takeWhile_all (p : UInt8 → Bool) : ∀ (l : List UInt8), ∀ x ∈ l.takeWhile p, p x = true
  | [], x, h => by cases h
  | y :: l, x, h => by
    rw [List.takeWhile_cons] at h
    split at h
    · rcases List.mem_cons.1 h with rfl | h
      · assumption
      · exact takeWhile_all p l x h
    · cases h
theorem digs_dig (l : List UInt8) : Dig (digs l) := fun c hc => by
  have h : dgU c = true := takeWhile_all _ _ c hc
  unfold dgU dgN at h
  simp at h
  exact h
theorem itoa_neg' {u : Nat} (h : 1 ≤ u) : Lib.itoa (-(u : Int)) = 45 :: Lib.decDigits u := Lib.itoa_neg u h
theorem numP_doc (l : List UInt8) : numP l = (docN l).map fun p => (3, p.1, p.2) := by
  have hD := digs_dig l
  have hT : numT l = (if hdN l = some 45 then [45] else []) ++ digs l := rfl
  unfold numP docN
  rw [hT]
  generalize digs l = D at hD ⊢
  by_cases h0 : D = []
  · rw [if_pos (Or.inl h0 : D = [] ∨ 19 < D.length ∨ (1 < D.length ∧ hdN D = some 48) ∨ (hdN l = some 45 ∧ valD 0 D = 0))]
    subst h0
    by_cases hn : hdN l = some 45
    · rw [if_pos hn]; rfl
    · rw [if_neg hn]; rfl
  obtain ⟨c, r, rfl⟩ : ∃ c r, D = c :: r := by
    cases D with
    | nil => exact absurd rfl h0
    | cons c r => exact ⟨c, r, rfl⟩
  have hc := hD c (List.mem_cons_self ..)
  have hP : Lib.parseIntB 64 ((if hdN l = some 45 then [45] else []) ++ c :: r) = (match Lib.parseUintM 18446744073709551615 0 (c :: r) with
      | .«syntax» => .«syntax»
      | .range => .range
      | .ok u => if ¬ (hdN l = some 45) ∧ 9223372036854775808 ≤ u then .range else if hdN l = some 45 ∧ 9223372036854775808 < u then .range else .ok (if hdN l = some 45 then -(u : Int) else u)) := by
    by_cases hn : hdN l = some 45
    · rw [if_pos hn]
      show (match Lib.parseUintB 64 (c :: r) with | .«syntax» => _ | .range => _ | .ok u => _) = _
      show (match Lib.parseUintM 18446744073709551615 0 (c :: r) with | .«syntax» => _ | .range => _ | .ok u => _) = _
      cases Lib.parseUintM 18446744073709551615 0 (c :: r) with
      | ok u => simp [hn]
      | range => rfl
      | «syntax» => rfl
    · rw [if_neg hn]
      have h1 : ¬ (c.toNat = 43 ∨ c.toNat = 45) := by omega
      have h2 : ¬ c.toNat = 45 := by omega
      show (match Lib.parseUintB 64 (if c.toNat = 43 ∨ c.toNat = 45 then r else c :: r) with | .«syntax» => _ | .range => _ | .ok u => _) = _
      rw [if_neg h1]
      show (match Lib.parseUintM 18446744073709551615 0 (c :: r) with | .«syntax» => _ | .range => _ | .ok u => _) = _
      cases Lib.parseUintM 18446744073709551615 0 (c :: r) with
      | ok u => simp [hn, h2]
      | range => rfl
      | «syntax» => rfl
  rw [hP]
  clear hP h0
  by_cases hz : 1 < (c :: r).length ∧ hdN (c :: r) = some 48
  · rw [if_pos (Or.inr (Or.inr (Or.inl hz)) : (c :: r) = [] ∨ 19 < (c :: r).length ∨ (1 < (c :: r).length ∧ hdN (c :: r) = some 48) ∨ (hdN l = some 45 ∧ valD 0 (c :: r) = 0))]
    cases Lib.parseUintM 18446744073709551615 0 (c :: r) with
    | range => rfl
    | «syntax» => rfl
    | ok u =>
      have hne : Lib.decDigits u ≠ c :: r := fun e => (dec_can u).1.2 (by rw [e]; exact hz)
      by_cases hn : hdN l = some 45
      · simp only [hn, not_true_eq_false, false_and, if_false, true_and, if_true]
        by_cases hb : 9223372036854775808 < u
        · rw [if_pos hb]; rfl
        · rw [if_neg hb]
          show (if Lib.itoa (-(u : Int)) = 45 :: c :: r then _ else none) = none
          rw [if_neg]
          intro e
          by_cases hu : u = 0
          · subst hu
            have e1 : Lib.itoa (-((0 : Nat) : Int)) = [48] := by show Lib.itoa 0 = _; rw [show (0 : Int) = ((0 : Nat) : Int) from rfl, Lib.itoa_nonneg, Lib.decDigits_one (by omega)]; rfl
            rw [e1] at e
            cases e
          · rw [itoa_neg' (by omega)] at e
            exact hne (List.cons.inj e).2
      · simp only [hn, not_false_eq_true, true_and, false_and, if_false]
        by_cases hb : 9223372036854775808 ≤ u
        · rw [if_pos hb]; rfl
        · rw [if_neg hb]
          show (if Lib.itoa (u : Int) = c :: r then _ else none) = none
          rw [if_neg]
          rw [Lib.itoa_nonneg]
          exact hne
  · have hcan : Can (c :: r) := ⟨by simp, hz⟩
    have hdec := dec_val _ (c :: r) rfl hD hcan
    by_cases h19 : 19 < (c :: r).length
    · rw [if_pos (Or.inr (Or.inl h19) : (c :: r) = [] ∨ 19 < (c :: r).length ∨ (1 < (c :: r).length ∧ hdN (c :: r) = some 48) ∨ (hdN l = some 45 ∧ valD 0 (c :: r) = 0))]
      have hx : c.toNat ≠ 48 := fun e => hz ⟨by omega, by show some c.toNat = _; rw [e]⟩
      have h1 := valD_pos hD hx
      have h2 : 10 ^ 19 ≤ 10 ^ r.length := Nat.pow_le_pow_right (by omega) (by simp at h19; omega)
      have h3 : 10000000000000000000 ≤ valD 0 (c :: r) := Nat.le_trans h2 h1
      cases hp : Lib.parseUintM 18446744073709551615 0 (c :: r) with
      | range => rfl
      | «syntax» => rfl
      | ok u =>
        have hu := parse_is _ _ _ _ hp
        rw [← hu] at h3
        by_cases hn : hdN l = some 45
        · simp only [hn, not_true_eq_false, false_and, if_false, true_and, if_true]
          rw [if_pos (by omega)]; rfl
        · simp only [hn, not_false_eq_true, true_and, false_and, if_false]
          rw [if_pos (by omega)]; rfl
    · have h1 := valD_lt (c :: r) 0 hD
      have h2 : 10 ^ (c :: r).length ≤ 10 ^ 19 := Nat.pow_le_pow_right (by omega) (by omega)
      have h3 : valD 0 (c :: r) < 10000000000000000000 := by
        rw [Nat.zero_add, Nat.one_mul] at h1
        exact Nat.lt_of_lt_of_le h1 h2
      rw [parse_val 18446744073709551615 (Nat.le_refl _) (c :: r) 0 hD (by omega)]
      generalize valD 0 (c :: r) = u at hdec h3 ⊢
      clear h1 h2
      by_cases hn : hdN l = some 45
      · simp only [hn, not_true_eq_false, false_and, if_false, true_and, if_true]
        by_cases hu : u = 0
        · subst hu
          rw [if_pos (show (c :: r = [] ∨ 19 < (c :: r).length ∨ (1 < (c :: r).length ∧ hdN (c :: r) = some 48) ∨ (0 : Nat) = 0) from .inr (.inr (.inr rfl)))]
          rw [if_neg (show ¬ (9223372036854775808 < (0 : Nat)) by omega)]
          have e1 : Lib.itoa (-((0 : Nat) : Int)) = [48] := by show Lib.itoa 0 = _; rw [show (0 : Int) = ((0 : Nat) : Int) from rfl, Lib.itoa_nonneg, Lib.decDigits_one (by omega)]; rfl
          show (if Lib.itoa (-((0 : Nat) : Int)) = 45 :: c :: r then _ else none) = none
          rw [e1, if_neg (by intro e; cases e)]
        · rw [if_neg (show ¬ (c :: r = [] ∨ 19 < (c :: r).length ∨ (1 < (c :: r).length ∧ hdN (c :: r) = some 48) ∨ u = 0) from fun h => by
            rcases h with h | h | h | h
            · cases h
            · exact h19 h
            · exact hz h
            · exact hu h)]
          by_cases hb : 9223372036854775808 < u
          · rw [if_pos hb, if_pos hb]; rfl
          · rw [if_neg hb, if_neg hb]
            show (if Lib.itoa (-(u : Int)) = 45 :: c :: r then _ else none) = _
            rw [if_pos (by rw [itoa_neg' (by omega), hdec])]; rfl
      · simp only [hn, not_false_eq_true, true_and, false_and, if_false]
        rw [if_neg (show ¬ (c :: r = [] ∨ 19 < (c :: r).length ∨ (1 < (c :: r).length ∧ hdN (c :: r) = some 48) ∨ False) from fun h => by
            rcases h with h | h | h | h
            · cases h
            · exact h19 h
            · exact hz h
            · exact h)]
        by_cases hb : 9223372036854775808 ≤ u
        · rw [if_pos hb, if_pos (by omega)]; rfl
        · rw [if_neg hb, if_neg (by omega)]
          show (if Lib.itoa (u : Int) = c :: r then _ else none) = _
          rw [if_pos (by rw [Lib.itoa_nonneg, hdec])]; rfl
end Go.Proofs.YtelhgjepjieocaaDoor

/- Layer 18 (json): a parsed value's numbers and lengths are in their ranges. -/
namespace Go.Proofs.YtelhgjepjieocaaDoor
open Go.RowKit Go.MapKept Go.Sort
set_option linter.unusedVariables false

theorem chF_tlen : ∀ (k : Nat) {l t r : List UInt8}, chF k l = some (t, r) → t.length ≤ l.length
  | 0, l, t, r, h => by cases h
  | k + 1, l, t, r, h => by
    by_cases h34 : hdN l = some 34
    · rw [chF_end h34] at h
      simp only [Option.some.injEq, Prod.mk.injEq] at h
      rw [← h.1]; simp
    · rw [chF_step h34] at h
      cases hc : charP l with
      | none => rw [hc] at h; cases h
      | some p =>
        obtain ⟨c, r'⟩ := p
        rw [hc] at h
        have e9 : chS k (some (c, r')) = (chF k r').map fun p => (c.toUInt8 :: p.1, p.2) := rfl
        rw [e9] at h
        cases hk : chF k r' with
        | none => rw [hk] at h; cases h
        | some q =>
          obtain ⟨t', r2⟩ := q
          rw [hk] at h
          simp only [Option.map_some, Option.some.injEq, Prod.mk.injEq] at h
          have h1 := chF_tlen k hk
          have h2 := (charP_len hc).2
          rw [← h.1, List.length_cons]; omega
theorem textP_tlen {l t r : List UInt8} (h : textP l = some (t, r)) : t.length ≤ l.length := by
  unfold textP at h
  split at h
  · have h1 := chF_tlen _ h
    rw [List.length_tail] at h1
    omega
  · cases h
theorem docN_rng {l r : List UInt8} {v : Int} (h : docN l = some (v, r)) : -9223372036854775808 ≤ v ∧ v ≤ 9223372036854775807 := by
  unfold docN at h
  split at h
  · cases h
  · split at h
    · split at h
      · cases h
      · simp only [Option.some.injEq, Prod.mk.injEq] at h
        omega
    · split at h
      · cases h
      · simp only [Option.some.injEq, Prod.mk.injEq] at h
        omega
theorem wordP_rng {l r : List UInt8} {k v : Int} (h : wordP l = some (k, v, r)) : -9223372036854775808 ≤ v ∧ v ≤ 9223372036854775807 := by
  unfold wordP at h
  split at h
  · simp only [Option.some.injEq, Prod.mk.injEq] at h; omega
  · split at h
    · simp only [Option.some.injEq, Prod.mk.injEq] at h; omega
    · split at h
      · simp only [Option.some.injEq, Prod.mk.injEq] at h; omega
      · cases h
theorem Rngs.push {x : Js} (hx : Rng x) : ∀ {its : List Js}, Rngs its → Rngs (its ++ [x])
  | [], _ => by
    show Rngs [x]
    unfold Rngs Rngs; exact ⟨hx, trivial⟩
  | y :: ys, h => by
    unfold Rngs at h
    show Rngs (y :: (ys ++ [x]))
    unfold Rngs; exact ⟨h.1, Rngs.push hx h.2⟩
theorem rng_mk {k n : Int} {t : List UInt8} {ns : List (List UInt8)} {its : List Js} (h1 : -9223372036854775808 ≤ n ∧ n ≤ 9223372036854775807) (h2 : t.length ≤ 1048576) (h3 : ns.length ≤ 140737488355328) (h4 : its.length ≤ 140737488355328) (h5 : ∀ s ∈ ns, s.length ≤ 1048576) (h6 : Rngs its) : Rng (.mk k n t ns its) := by
  unfold Rng
  exact ⟨h1, by omega, h3, h4, fun s hs => by have := h5 s hs; omega, h6⟩
theorem rngs_nil : Rngs [] := by unfold Rngs; trivial
theorem rng_plain {k n : Int} {t : List UInt8} (h1 : -9223372036854775808 ≤ n ∧ n ≤ 9223372036854775807) (h2 : t.length ≤ 1048576) : Rng (.mk k n t [] []) := rng_mk h1 h2 (by simp) (by simp) (fun s hs => by cases hs) rngs_nil
theorem bareF_rng : ∀ (k : Nat), (∀ (d : Nat) (l : List UInt8) (x : Js) (r : List UInt8), bareF k d l = .ok (x, r) → l.length ≤ 1048576 → k ≤ 4194304 → Rng x) ∧
    (∀ (kind : Int) (e d : Nat) (l : List UInt8) (ns : List (List UInt8)) (its : List Js) (x : Js) (r : List UInt8), elF k kind e d l ns its = .ok (x, r) → l.length ≤ 1048576 → Rngs its → (∀ t ∈ ns, t.length ≤ 1048576) → k ≤ 4194304 → ns.length + k ≤ 8388608 → its.length + k ≤ 8388608 → Rng x)
  | 0 => ⟨fun d l x r h => (by unfold bareF at h; cases h), fun kind e d l ns its x r h => (by unfold elF at h; cases h)⟩
  | k + 1 => by
    obtain ⟨ih1, ih2⟩ := bareF_rng k
    refine ⟨fun d l x r h hl hk => ?_, fun kind e d l ns its x r h hl hi hn hk hk1 hk2 => ?_⟩
    · unfold bareF at h
      have h0 := spL_len l.tail
      have h00 : l.tail.length ≤ l.length := by simp
      have hw : ∀ (kind : Int) (e : Nat), (if d = 16 then Except.error 182 else if hdN (spL l.tail) = some e then .ok (.mk kind 0 [] [] [], (spL l.tail).tail) else elF k kind e d (spL l.tail) [] []) = Except.ok (x, r) → Rng x := fun kind e h => by
        split at h
        · cases h
        · split at h
          · cases h; exact rng_plain (by omega) (by simp)
          · exact ih2 _ _ _ _ _ _ _ _ h (by omega) rngs_nil (fun t ht => by cases ht) (by omega) (by simp; omega) (by simp; omega)
      split at h
      · exact hw _ _ h
      · split at h
        · exact hw _ _ h
        · split at h
          · cases ht : textP l with
            | none => rw [ht] at h; cases h
            | some p =>
              obtain ⟨t, r'⟩ := p
              rw [ht] at h
              cases h
              have := textP_tlen ht
              exact rng_plain (by omega) (by omega)
          · split at h
            · rw [numP_doc] at h
              cases ht : docN l with
              | none => rw [ht] at h; cases h
              | some p =>
                obtain ⟨b, r'⟩ := p
                rw [ht] at h
                cases h
                exact rng_plain (docN_rng ht) (by simp)
            · cases ht : wordP l with
              | none => rw [ht] at h; cases h
              | some p =>
                obtain ⟨a, b, r'⟩ := p
                rw [ht] at h
                cases h
                exact rng_plain (wordP_rng ht) (by simp)
    · unfold elF at h
      have hN : ∀ ns' l1, elN kind ns l = .ok (ns', l1) → l1.length ≤ l.length ∧ (∀ t ∈ ns', t.length ≤ 1048576) ∧ ns'.length ≤ ns.length + 1 := fun ns' l1 h => by
        unfold elN at h
        split at h
        · split at h
          · rename_i t r2 hq
            cases h
            refine ⟨nameP_len hq, fun u hu => ?_, by simp⟩
            rcases List.mem_append.1 hu with hu | hu
            · exact hn u hu
            · rw [List.mem_singleton.1 hu]
              unfold nameP at hq
              split at hq
              · cases hq
              · rename_i t9 r9 ht
                have h1 := textP_tlen ht
                have h2 := spL_len l
                split at hq
                · cases hq
                · split at hq
                  · cases hq; omega
                  · cases hq
          · cases h
        · cases h; exact ⟨Nat.le_refl _, hn, by omega⟩
      split at h
      · cases h
      · rename_i ns' l1 hq
        obtain ⟨h1, hn', hn2⟩ := hN _ _ hq
        split at h
        · cases h
        · rename_i y r1 hb
          have h3 := spL_len l1
          have hy := ih1 _ _ _ _ hb (by omega) (by omega)
          have h2 := (bareF_lens k).1 _ _ _ _ hb
          have h4 := spL_len r1
          have hi2 := Rngs.push hy hi
          split at h
          · cases h
            exact rng_mk (by omega) (by simp) (by omega) (by simp; omega) hn' hi2
          · split at h
            · refine ih2 _ _ _ _ _ _ _ _ h ?_ hi2 hn' (by omega) (by omega) (by simp; omega)
              rw [List.length_tail]; omega
            · cases h
theorem parseJ_rng {s : ByteArray} {v : Js} (h : parseJ s = .ok v) : Rng v := by
  unfold parseJ at h
  split at h
  · cases h
  · rename_i hs
    unfold valF at h
    have h0 := spL_len (tl s 0)
    have hl := tl_length s 0
    cases hb : bareF (2 * s.size + 1) 0 (spL (tl s 0)) with
    | error c => rw [hb] at h; cases h
    | ok p =>
      obtain ⟨x, r⟩ := p
      rw [hb] at h
      have hx := (bareF_rng _).1 _ _ _ _ hb (by omega) (by omega)
      have h' : (if spL r = [] then Except.ok x else Except.error 181) = Except.ok (ε := Int) v := h
      split at h'
      · cases h'; exact hx
      · cases h'
end Go.Proofs.YtelhgjepjieocaaDoor
