/- Layer 18 (json): a text within another (plain). -/
import Derived.Test.YtelhgjepjieocaaDoorJxSpV
namespace Go.Proofs.YtelhgjepjieocaaDoor
open Go.RowKit Go.Sort
set_option linter.unusedVariables false

mutual
/-- A value's depth. -/
def depJ : Js → Nat
  | .mk k n t ns its => if k = 5 ∨ k = 6 then depL its + 1 else 0
def depL : List Js → Nat
  | [] => 0
  | x :: xs => max (depJ x) (depL xs)
end
theorem depL_nil : depL [] = 0 := by unfold depL; rfl
theorem depL_cons (x : Js) (xs : List Js) : depL (x :: xs) = max (depJ x) (depL xs) := by
  conv => lhs; unfold depL
theorem depL_app : ∀ (a b : List Js), depL (a ++ b) = max (depL a) (depL b)
  | [], b => by rw [List.nil_append, depL_nil]; simp
  | x :: a, b => by rw [List.cons_append, depL_cons, depL_cons, depL_app a b, Nat.max_assoc]
theorem hdN_app {l Q : List UInt8} {c : Nat} (h : hdN l = some c) : hdN (l ++ Q) = some c ∧ (l ++ Q).tail = l.tail ++ Q ∧ l ≠ [] := by
  cases l with
  | nil => cases h
  | cons x l => exact ⟨h, rfl, by simp⟩
theorem hd_same {l : List UInt8} (Q : List UInt8) (h : l ≠ []) : hdN (l ++ Q) = hdN l := by
  cases l with
  | nil => exact absurd rfl h
  | cons x l => rfl
theorem spL_app : ∀ (l Q : List UInt8), spL l ≠ [] → spL (l ++ Q) = spL l ++ Q
  | [], Q, h => absurd rfl h
  | c :: l, Q, h => by
    show (if isSpN c.toNat then spL (l ++ Q) else c :: (l ++ Q)) = (if isSpN c.toNat then spL l else c :: l) ++ Q
    have h' : (if isSpN c.toNat then spL l else c :: l) ≠ [] := h
    cases hc : isSpN c.toNat with
    | true =>
      rw [hc] at h'
      exact spL_app l Q h'
    | false => rfl
theorem spA0 : ∀ (l Q : List UInt8), spL l = [] → spL (l ++ Q) = spL Q
  | [], Q, h => rfl
  | c :: l, Q, h => by
    have h' : (if isSpN c.toNat then spL l else c :: l) = [] := h
    cases hc : isSpN c.toNat with
    | true =>
      rw [hc] at h'
      show (if isSpN c.toNat then spL (l ++ Q) else c :: (l ++ Q)) = spL Q
      rw [hc]
      exact spA0 l Q h'
    | false => rw [hc] at h'; cases h'
theorem take_nod {Q : List UInt8} (h : NoD Q) : ∀ l : List UInt8, (l ++ Q).takeWhile dgU = l.takeWhile dgU ∧ (l ++ Q).dropWhile dgU = l.dropWhile dgU ++ Q
  | [] => ⟨h.take.1, h.take.2⟩
  | c :: l => by
    have := take_nod h l
    rw [List.cons_append, List.takeWhile_cons, List.dropWhile_cons, List.takeWhile_cons, List.dropWhile_cons]
    cases dgU c with
    | true => exact ⟨by simp [this.1], by simp [this.2]⟩
    | false => exact ⟨rfl, rfl⟩
theorem charP_app {l r : List UInt8} {c : Nat} (Q : List UInt8) (h : charP l = some (c, r)) : charP (l ++ Q) = some (c, r ++ Q) ∧ l ≠ [] := by
  cases l with
  | nil => cases h
  | cons x l =>
    refine ⟨?_, by simp⟩
    have h' : (if x.toNat = 92 then escP l else if x.toNat < 32 then none else some (x.toNat, l)) = some (c, r) := h
    show (if x.toNat = 92 then escP (l ++ Q) else if x.toNat < 32 then none else some (x.toNat, l ++ Q)) = _
    by_cases h92 : x.toNat = 92
    · rw [if_pos h92] at h' ⊢
      cases l with
      | nil => cases h'
      | cons u l =>
        have h2 : (if u.toNat = 117 then hex4P l else (escV u.toNat).map fun v => (v, l)) = some (c, r) := h'
        show (if u.toNat = 117 then hex4P (l ++ Q) else (escV u.toNat).map fun v => (v, l ++ Q)) = _
        by_cases hu : u.toNat = 117
        · rw [if_pos hu] at h2 ⊢
          unfold hex4P at h2 ⊢
          by_cases h4 : 4 ≤ l.length
          · rw [if_pos h4] at h2
            rw [if_pos (by rw [List.length_append]; omega), List.take_append_of_le_length h4, List.drop_append_of_le_length h4]
            cases hx : hexF 0 (l.take 4) with
            | none => rw [hx] at h2; cases h2
            | some v => rw [hx] at h2; cases h2; rfl
          · rw [if_neg h4] at h2; cases h2
        · rw [if_neg hu] at h2 ⊢
          cases hx : escV u.toNat with
          | none => rw [hx] at h2; cases h2
          | some v => rw [hx] at h2; cases h2; rfl
    · rw [if_neg h92] at h' ⊢
      by_cases h32 : x.toNat < 32
      · rw [if_pos h32] at h'; cases h'
      · rw [if_neg h32] at h' ⊢
        cases h'; rfl
theorem chF_app : ∀ (k k' : Nat) {l t r : List UInt8} (Q : List UInt8), chF k l = some (t, r) → k ≤ k' → chF k' (l ++ Q) = some (t, r ++ Q)
  | 0, k', l, t, r, Q, h, hk => by cases h
  | k + 1, 0, l, t, r, Q, h, hk => by omega
  | k + 1, k' + 1, l, t, r, Q, h, hk => by
    by_cases h34 : hdN l = some 34
    · rw [chF_end h34] at h
      cases h
      rw [chF_end (hdN_app h34).1, (hdN_app h34).2.1]
    · rw [chF_step h34] at h
      cases hc : charP l with
      | none => rw [hc] at h; cases h
      | some p =>
        obtain ⟨c, r'⟩ := p
        rw [hc] at h
        obtain ⟨e1, e2⟩ := charP_app Q hc
        have e9 : chS k (some (c, r')) = (chF k r').map fun p => (c.toUInt8 :: p.1, p.2) := rfl
        rw [e9] at h
        rw [chF_step (by rw [hd_same Q e2]; exact h34), e1]
        show (chF k' (r' ++ Q)).map (fun p => (c.toUInt8 :: p.1, p.2)) = _
        cases hk2 : chF k r' with
        | none => rw [hk2] at h; cases h
        | some q =>
          obtain ⟨t', r2⟩ := q
          rw [hk2] at h
          cases h
          rw [chF_app k k' Q hk2 (by omega)]
          rfl
theorem textP_app {l t r : List UInt8} (Q : List UInt8) (h : textP l = some (t, r)) : textP (l ++ Q) = some (t, r ++ Q) ∧ l ≠ [] := by
  unfold textP at h ⊢
  by_cases h34 : hdN l = some 34
  · obtain ⟨a, b, c⟩ := hdN_app (Q := Q) h34
    rw [if_pos h34] at h
    rw [if_pos a, b]
    exact ⟨chF_app _ _ Q h (by simp), c⟩
  · rw [if_neg h34] at h; cases h
theorem nameP_app {ns : List (List UInt8)} {l t r : List UInt8} (Q : List UInt8) (h : nameP ns l = .ok (t, r)) : nameP ns (l ++ Q) = .ok (t, r ++ Q) := by
  unfold nameP at h
  split at h
  · cases h
  · rename_i t9 r9 ht
    obtain ⟨a, b⟩ := textP_app Q ht
    unfold nameP
    rw [spL_app l Q b, a]
    split at h
    · cases h
    · rename_i hm
      split at h
      · rename_i h58
        cases h
        obtain ⟨c1, c2, c3⟩ := hdN_app (Q := Q) h58
        show (if t ∈ ns then _ else if hdN (spL (r9 ++ Q)) = some 58 then _ else _) = _
        rw [if_neg hm, spL_app r9 Q c3, if_pos c1, c2]
      · cases h
theorem numP_app {l r : List UInt8} {a b : Int} {Q : List UInt8} (hQ : NoD Q) (h : numP l = some (a, b, r)) : numP (l ++ Q) = some (a, b, r ++ Q) := by
  cases l with
  | nil => rw [show numP [] = none by kernel_rfl] at h; cases h
  | cons c l =>
    have ht : tkL (c :: l ++ Q) 45 = tkL (c :: l) 45 ++ Q := by
      unfold tkL
      rw [show hdN (c :: l ++ Q) = hdN (c :: l) from rfl]
      split <;> rfl
    have h1 : numT (c :: l ++ Q) = numT (c :: l) := by
      unfold numT
      rw [show hdN (c :: l ++ Q) = hdN (c :: l) from rfl, ht, (take_nod hQ _).1]
    have h2 : numR (c :: l ++ Q) = numR (c :: l) ++ Q := by
      unfold numR
      rw [ht, (take_nod hQ _).2]
    unfold numP at h ⊢
    rw [h1, h2]
    cases hq : Lib.parseIntB 64 (numT (c :: l)) with
    | ok v =>
      rw [hq] at h
      by_cases hv : Lib.itoa v = numT (c :: l)
      · simp only [if_pos hv] at h ⊢
        cases h; rfl
      · simp only [if_neg hv] at h
        cases h
    | range => rw [hq] at h; cases h
    | «syntax» => rw [hq] at h; cases h
theorem pref_app (Q : List UInt8) : ∀ (p l : List UInt8), p.length ≤ l.length → Lib.hasPrefix (l ++ Q) p = Lib.hasPrefix l p
  | [], l, _ => by cases l <;> cases Q <;> rfl
  | c :: p, [], h => by simp at h
  | c :: p, x :: l, h => by
    show ((c == x) && Lib.hasPrefix (l ++ Q) p) = ((c == x) && Lib.hasPrefix l p)
    rw [pref_app Q p l (by simpa using h)]
theorem wordP_app {l r : List UInt8} {a b : Int} (Q : List UInt8) (h : wordP l = some (a, b, r)) : wordP (l ++ Q) = some (a, b, r ++ Q) := by
  have e1 : wNull.data.toList.length = 4 := by decide
  have e2 : wTrue.data.toList.length = 4 := by decide
  have e3 : wFalse.data.toList.length = 5 := by decide
  unfold wordP at h ⊢
  by_cases h1 : Lib.hasPrefix l wNull.data.toList = true
  · have := hasPrefix_len h1
    rw [if_pos h1] at h
    rw [pref_app Q _ l (by omega), if_pos h1]
    cases h
    rw [List.drop_append_of_le_length (by omega)]
  rw [if_neg h1] at h
  by_cases h2 : Lib.hasPrefix l wTrue.data.toList = true
  · have := hasPrefix_len h2
    rw [if_pos h2] at h
    rw [pref_app Q _ l (by omega), if_neg h1, pref_app Q _ l (by omega), if_pos h2]
    cases h
    rw [List.drop_append_of_le_length (by omega)]
  rw [if_neg h2] at h
  by_cases h3 : Lib.hasPrefix l wFalse.data.toList = true
  · have := hasPrefix_len h3
    rw [if_pos h3] at h
    rw [pref_app Q _ l (by omega), if_neg h1, pref_app Q _ l (by omega), if_neg h2, pref_app Q _ l (by omega), if_pos h3]
    cases h
    rw [List.drop_append_of_le_length (by omega)]
  rw [if_neg h3] at h
  cases h
theorem bareE_nil : ∀ (k d : Nat), bareF k d [] = .error 181
  | 0, d => by unfold bareF; rfl
  | k + 1, d => by unfold bareF; rfl
theorem elE_nil (k : Nat) (kind : Int) (e d : Nat) (ns : List (List UInt8)) (its : List Js) : elF k kind e d [] ns its = .error 181 := by
  cases k with
  | zero => unfold elF; rfl
  | succ k =>
    unfold elF
    by_cases hk : kind = 6
    · rw [show elN kind ns [] = .error 181 by unfold elN; rw [if_pos hk]; rfl]
    · rw [show elN kind ns [] = .ok (ns, []) by unfold elN; rw [if_neg hk]]
      show (match bareF k (d + 1) [] with | .error c => _ | .ok (x, r) => _) = _
      rw [bareE_nil]
theorem elN_app {kind : Int} {ns ns' : List (List UInt8)} {l l1 : List UInt8} (Q : List UInt8) (h : elN kind ns l = .ok (ns', l1)) : elN kind ns (l ++ Q) = .ok (ns', l1 ++ Q) := by
  unfold elN at h ⊢
  by_cases hk : kind = 6
  · rw [if_pos hk] at h ⊢
    split at h
    · rename_i t r hq
      cases h
      rw [nameP_app Q hq]
    · cases h
  · rw [if_neg hk] at h ⊢
    cases h; rfl
theorem elF_has : ∀ (k : Nat) (kind : Int) (e d : Nat) (l : List UInt8) (ns : List (List UInt8)) (its : List Js) (x : Js) (r : List UInt8), elF k kind e d l ns its = .ok (x, r) → ∃ ns2 its2, x = .mk kind 0 [] ns2 (its ++ its2)
  | 0, kind, e, d, l, ns, its, x, r, h => by unfold elF at h; cases h
  | k + 1, kind, e, d, l, ns, its, x, r, h => by
    unfold elF at h
    split at h
    · cases h
    · split at h
      · cases h
      · rename_i y r1 hb
        split at h
        · cases h; exact ⟨_, _, rfl⟩
        · split at h
          · obtain ⟨ns2, its2, e9⟩ := elF_has k kind e d _ _ _ _ _ h
            exact ⟨ns2, y :: its2, by rw [e9, List.append_assoc]; rfl⟩
          · cases h
theorem bareF_app : ∀ (k : Nat), (∀ (k' d d' : Nat) (l : List UInt8) (x : Js) (r Q : List UInt8), NoD Q → bareF k d l = .ok (x, r) → k ≤ k' → d' + depJ x ≤ 16 → bareF k' d' (l ++ Q) = .ok (x, r ++ Q)) ∧
    (∀ (k' : Nat) (kind : Int) (e d d' : Nat) (l : List UInt8) (ns : List (List UInt8)) (its : List Js) (x : Js) (r Q : List UInt8), NoD Q → (kind = 5 ∨ kind = 6) → elF k kind e d l ns its = .ok (x, r) → k ≤ k' → d' + depJ x ≤ 16 → elF k' kind e d' (l ++ Q) ns its = .ok (x, r ++ Q))
  | 0 => ⟨fun k' d d' l x r Q hQ h hk hd => (by unfold bareF at h; cases h), fun k' kind e d d' l ns its x r Q hQ hkk h hk hd => (by unfold elF at h; cases h)⟩
  | k + 1 => by
    obtain ⟨ih1, ih2⟩ := bareF_app k
    refine ⟨fun k' d d' l x r Q hQ h hk hd => ?_, fun k' kind e d d' l ns its x r Q hQ hkk h hk hd => ?_⟩
    · obtain ⟨k', rfl⟩ : ∃ m, k' = m + 1 := ⟨k' - 1, by omega⟩
      have hne : l ≠ [] := by
        rintro rfl
        rw [bareE_nil] at h; cases h
      have hh := hd_same Q hne
      have hopen : ∀ (kind : Int) (e c : Nat), (kind = 5 ∨ kind = 6) → hdN l = some c → (if d = 16 then Except.error 182 else if hdN (spL l.tail) = some e then .ok (.mk kind 0 [] [] [], (spL l.tail).tail) else elF k kind e d (spL l.tail) [] []) = Except.ok (x, r) →
          (if d' = 16 then Except.error 182 else if hdN (spL (l ++ Q).tail) = some e then .ok (.mk kind 0 [] [] [], (spL (l ++ Q).tail).tail) else elF k' kind e d' (spL (l ++ Q).tail) [] []) = Except.ok (x, r ++ Q) := fun kind e c hkk hc h => by
        rw [(hdN_app (Q := Q) hc).2.1]
        split at h
        · cases h
        · have hx16 : 1 ≤ depJ x := by
            split at h
            · cases h
              unfold depJ
              rw [if_pos hkk]; omega
            · obtain ⟨ns2, its2, e9⟩ := elF_has _ _ _ _ _ _ _ _ _ h
              rw [e9]
              unfold depJ
              rw [if_pos hkk]; omega
          rw [if_neg (by omega)]
          split at h
          · rename_i he
            cases h
            obtain ⟨a, b, c⟩ := hdN_app (Q := Q) he
            rw [spL_app _ Q c, if_pos a, b]
          · rename_i he
            have hn9 : spL l.tail ≠ [] := fun q => by rw [q, elE_nil] at h; cases h
            rw [spL_app _ Q hn9, hd_same Q hn9, if_neg he]
            exact ih2 k' kind e d d' _ _ _ _ _ Q hQ hkk h (by omega) hd
      unfold bareF at h ⊢
      rw [hh]
      split at h
      · rename_i hc
        rw [if_pos hc]
        exact hopen 5 93 91 (.inl rfl) hc h
      · rename_i h91
        rw [if_neg h91]
        split at h
        · rename_i hc
          rw [if_pos hc]
          exact hopen 6 125 123 (.inr rfl) hc h
        · rename_i h123
          rw [if_neg h123]
          split at h
          · rename_i h34
            rw [if_pos h34]
            cases ht : textP l with
            | none => rw [ht] at h; cases h
            | some p =>
              obtain ⟨t, r'⟩ := p
              rw [ht] at h
              rw [(textP_app Q ht).1]
              cases h; rfl
          · rename_i h34
            rw [if_neg h34]
            split at h
            · rename_i hn
              rw [if_pos hn]
              cases ht : numP l with
              | none => rw [ht] at h; cases h
              | some p =>
                obtain ⟨a, b, r'⟩ := p
                rw [ht] at h
                rw [numP_app hQ ht]
                cases h; rfl
            · rename_i hn
              rw [if_neg hn]
              cases ht : wordP l with
              | none => rw [ht] at h; cases h
              | some p =>
                obtain ⟨a, b, r'⟩ := p
                rw [ht] at h
                rw [wordP_app Q ht]
                cases h; rfl
    · obtain ⟨k', rfl⟩ : ∃ m, k' = m + 1 := ⟨k' - 1, by omega⟩
      have hx := elF_has _ _ _ _ _ _ _ _ _ h
      unfold elF at h ⊢
      split at h
      · cases h
      · rename_i ns' l1 hq
        rw [elN_app Q hq]
        split at h
        · cases h
        · rename_i y r1 hb
          have hn1 : spL l1 ≠ [] := fun q => by rw [q, bareE_nil] at hb; cases hb
          have hdy : d' + 1 + depJ y ≤ 16 := by
            have : ∃ ns2 its2, x = .mk kind 0 [] ns2 (its ++ (y :: its2)) := by
              split at h
              · cases h; exact ⟨_, [], rfl⟩
              · split at h
                · obtain ⟨ns2, its2, e9⟩ := elF_has _ _ _ _ _ _ _ _ _ h
                  exact ⟨ns2, its2, by rw [e9, List.append_assoc]; rfl⟩
                · cases h
            obtain ⟨ns2, its2, e9⟩ := this
            rw [e9] at hd
            unfold depJ at hd
            rw [if_pos hkk, depL_app] at hd
            have : depJ y ≤ depL (y :: its2) := by
              rw [depL_cons]
              omega
            omega
          have hB := ih1 k' (d + 1) (d' + 1) _ _ _ Q hQ hb (by omega) hdy
          show (match bareF k' (d' + 1) (spL (l1 ++ Q)) with
            | Except.error c => Except.error c
            | Except.ok (x, r) => if hdN (spL r) = some e then Except.ok (Js.mk kind 0 [] ns' (its ++ [x]), (spL r).tail) else if hdN (spL r) = some 44 then elF k' kind e d' (spL r).tail ns' (its ++ [x]) else Except.error 181) = _
          rw [spL_app l1 Q hn1, hB]
          show (if hdN (spL (r1 ++ Q)) = some e then Except.ok (Js.mk kind 0 [] ns' (its ++ [y]), (spL (r1 ++ Q)).tail) else if hdN (spL (r1 ++ Q)) = some 44 then elF k' kind e d' (spL (r1 ++ Q)).tail ns' (its ++ [y]) else Except.error 181) = _
          split at h
          · rename_i he
            cases h
            obtain ⟨a, b, c⟩ := hdN_app (Q := Q) he
            rw [spL_app _ Q c, if_pos a, b]
          · rename_i he
            split at h
            · rename_i h44
              obtain ⟨a, b, c⟩ := hdN_app (Q := Q) h44
              rw [spL_app _ Q c, hd_same Q c, if_neg he, if_pos h44, b]
              exact ih2 k' kind e d d' _ _ _ _ _ Q hQ hkk h (by omega) hd
            · cases h
theorem itd_ok {k d : Nat} {l r : List UInt8} {x : Js} (h : bareF k d l = .ok (x, r)) : l ≠ [] ∧ hdN l ≠ some 93 := by
  refine ⟨fun e => (by rw [e, bareE_nil] at h; cases h), fun e => ?_⟩
  cases k with
  | zero => unfold bareF at h; cases h
  | succ k =>
    cases l with
    | nil => cases e
    | cons c l =>
      have hc : c.toNat = 93 := Option.some.inj e
      unfold bareF at h
      rw [if_neg (hdN_ne (by omega)), if_neg (hdN_ne (by omega)), if_neg (hdN_ne (by omega)), if_neg] at h
      · have hw : wordP (c :: l) = none := by
          have hp : ∀ (x : UInt8) (p : List UInt8), x.toNat ≠ 93 → ¬ Lib.hasPrefix (c :: l) (x :: p) = true := fun x p hx => by
            show ¬ ((x == c) && Lib.hasPrefix l p) = true
            rw [Bool.and_eq_true]
            rintro ⟨h1, -⟩
            have : x = c := by simpa using h1
            rw [this] at hx; exact hx hc
          unfold wordP
          rw [if_neg (show ¬ Lib.hasPrefix (c :: l) wNull.data.toList = true from hp 110 [117, 108, 108] (by decide)), if_neg (show ¬ Lib.hasPrefix (c :: l) wTrue.data.toList = true from hp 116 [114, 117, 101] (by decide)), if_neg (show ¬ Lib.hasPrefix (c :: l) wFalse.data.toList = true from hp 102 [97, 108, 115, 101] (by decide))]
        rw [hw] at h
        cases h
      · rintro (h1 | h1)
        · exact hdN_ne (by omega) h1
        · have h1 : dgN c.toNat = true := h1
          rw [hc] at h1
          exact absurd h1 (by decide)
theorem parse_open {s : List UInt8} {v : Js} (h : parseJ (nmB s) = .ok v) : ∃ k r, bareF k 0 (spL s) = .ok (v, r) ∧ spL r = [] ∧ k = 2 * s.length + 1 := by
  have z2 : (nmB s).size = s.length := by simp [nmB, ByteArray.size]
  have t2 : tl (nmB s) 0 = s := by unfold tl nmB; simp
  unfold parseJ at h
  split at h
  · cases h
  · rw [z2, t2] at h
    unfold valF at h
    cases hb : bareF (2 * s.length + 1) 0 (spL s) with
    | error c => rw [hb] at h; cases h
    | ok p =>
      obtain ⟨x, r⟩ := p
      rw [hb] at h
      have h' : (if spL r = [] then Except.ok x else Except.error 181) = Except.ok (ε := Int) v := h
      split at h'
      · rename_i h0
        cases h'
        exact ⟨_, r, hb, h0, rfl⟩
      · cases h'
/-- A list of one text's value. -/
theorem parseJ_list (P s : List UInt8) (v : Js) (hP : Sp P) (h : parseJ (nmB s) = .ok v) (hd : depJ v < 16) (hl : s.length + P.length + 2 ≤ 65536) : parseJ (nmB (91 :: (P ++ s ++ [93]))) = .ok (.mk 5 0 [] [] [v]) := by
  obtain ⟨k, r, hb, hr, hk⟩ := parse_open h
  obtain ⟨h1, h2⟩ := itd_ok hb
  have z1 : (nmB (91 :: (P ++ s ++ [93]))).size = s.length + P.length + 2 := by simp [nmB, ByteArray.size]; omega
  have t1 : tl (nmB (91 :: (P ++ s ++ [93]))) 0 = 91 :: (P ++ s ++ [93]) := by unfold tl nmB; simp
  have hQ : NoD [93] := nod_lit (by decide)
  have hs1 : spL (P ++ s ++ [93]) = spL s ++ [93] := by rw [List.append_assoc, spL_front P _ hP, spL_app s _ h1]
  have hs2 : spL (spL s ++ [93]) = spL s ++ [93] := by
    have := spL_app (spL s) [93] (by rw [spL_spL]; exact h1)
    rw [this, spL_spL]
  unfold parseJ
  rw [if_neg (by omega), z1, t1]
  obtain ⟨m, hm⟩ : ∃ m, 2 * (s.length + P.length + 2) + 1 = m + 1 + 1 := ⟨2 * (s.length + P.length + 2) - 1, by omega⟩
  rw [hm]
  have hB := (bareF_app k).1 m 0 1 _ _ _ [93] hQ hb (by omega) (by omega)
  have hbr : bareF (m + 1 + 1) 0 (91 :: (P ++ s ++ [93])) = .ok (.mk 5 0 [] [] [v], []) := by
    unfold bareF
    rw [if_pos (by rfl), if_neg (by decide), show (91 :: (P ++ s ++ [93]) : List UInt8).tail = P ++ s ++ [93] from rfl]
    simp only [hs1]
    rw [if_neg (by rw [hd_same [93] h1]; exact h2)]
    unfold elF
    rw [show elN 5 [] (spL s ++ [93]) = .ok ([], spL s ++ [93]) from rfl]
    simp only [hs2, hB]
    rw [show spL (r ++ [93]) = [93] by rw [spA0 r _ hr]; rfl]
    rfl
  unfold valF
  rw [show spL (91 :: (P ++ s ++ [93])) = 91 :: (P ++ s ++ [93]) from sp_no (by decide), hbr]
  rfl
/-- An object with one text's value. -/
theorem parseJ_obj (P s : List UInt8) (v : Js) (hP : Sp P) (h : parseJ (nmB s) = .ok v) (hd : depJ v < 16) (hl : s.length + 3 * P.length + 6 ≤ 65536) : parseJ (nmB (123 :: (P ++ (34 :: 107 :: 34 :: (P ++ (58 :: (s ++ (P ++ [125])))))))) = .ok (.mk 6 0 [] [[107]] [v]) := by
  obtain ⟨k, r, hb, hr, hk⟩ := parse_open h
  obtain ⟨h1, h2⟩ := itd_ok hb
  have z1 : (nmB (123 :: (P ++ (34 :: 107 :: 34 :: (P ++ (58 :: (s ++ (P ++ [125])))))))).size = s.length + 3 * P.length + 6 := by simp [nmB, ByteArray.size]; omega
  have t1 : tl (nmB (123 :: (P ++ (34 :: 107 :: 34 :: (P ++ (58 :: (s ++ (P ++ [125])))))))) 0 = 123 :: (P ++ (34 :: 107 :: 34 :: (P ++ (58 :: (s ++ (P ++ [125])))))) := by unfold tl nmB; simp
  have hQ : NoD (P ++ [125]) := by
    cases P with
    | nil => exact nod_lit (by decide)
    | cons c P => exact nod_lit (sp_dg hP.tail.1)
  have hn : nameP [] (34 :: 107 :: 34 :: (P ++ (58 :: (s ++ (P ++ [125]))))) = .ok ([107], s ++ (P ++ [125])) := by
    have ht : textP (34 :: 107 :: 34 :: (P ++ (58 :: (s ++ (P ++ [125]))))) = some ([107], P ++ (58 :: (s ++ (P ++ [125])))) := textP_back [107] _
    unfold nameP
    rw [sp_no (by decide), ht]
    show (if ([107] : List UInt8) ∈ ([] : List (List UInt8)) then _ else if hdN (spL (P ++ (58 :: (s ++ (P ++ [125]))))) = some 58 then _ else _) = _
    rw [if_neg (by simp), spL_front P _ hP, sp_no (by decide), if_pos (by rfl)]
    rfl
  unfold parseJ
  rw [if_neg (by omega), z1, t1]
  obtain ⟨m, hm⟩ : ∃ m, 2 * (s.length + 3 * P.length + 6) + 1 = m + 1 + 1 := ⟨2 * (s.length + 3 * P.length + 6) - 1, by omega⟩
  rw [hm]
  have hB := (bareF_app k).1 m 0 1 _ _ _ (P ++ [125]) hQ hb (by omega) (by omega)
  have hbr : bareF (m + 1 + 1) 0 (123 :: (P ++ (34 :: 107 :: 34 :: (P ++ (58 :: (s ++ (P ++ [125]))))))) = .ok (.mk 6 0 [] [[107]] [v], []) := by
    unfold bareF
    rw [if_neg (hdN_ne (by decide)), if_pos (by rfl), if_neg (by decide), show (123 :: (P ++ (34 :: 107 :: 34 :: (P ++ (58 :: (s ++ (P ++ [125])))))) : List UInt8).tail = P ++ (34 :: 107 :: 34 :: (P ++ (58 :: (s ++ (P ++ [125]))))) from rfl]
    simp only [show spL (P ++ (34 :: 107 :: 34 :: (P ++ (58 :: (s ++ (P ++ [125])))))) = 34 :: 107 :: 34 :: (P ++ (58 :: (s ++ (P ++ [125])))) by rw [spL_front P _ hP]; exact sp_no (by decide)]
    rw [if_neg (hdN_ne (by decide))]
    unfold elF
    rw [show elN 6 [] (34 :: 107 :: 34 :: (P ++ (58 :: (s ++ (P ++ [125]))))) = .ok ([[107]], s ++ (P ++ [125])) by unfold elN; rw [if_pos rfl, hn]; rfl]
    simp only [spL_app s (P ++ [125]) h1, hB]
    rw [show spL (r ++ (P ++ [125])) = [125] by rw [spA0 r _ hr, spL_front P _ hP]; rfl]
    rfl
  unfold valF
  rw [show spL (123 :: (P ++ (34 :: 107 :: 34 :: (P ++ (58 :: (s ++ (P ++ [125]))))))) = 123 :: (P ++ (34 :: 107 :: 34 :: (P ++ (58 :: (s ++ (P ++ [125])))))) from sp_no (by decide), hbr]
  rfl
mutual
theorem sound_dep : ∀ (v : Js) (d : Nat), soundJ v d = true → depJ v = 0 ∨ d + depJ v ≤ 16
  | .mk k n t ns its, d, h => by
    unfold depJ
    by_cases hk : k = 5 ∨ k = 6
    · rw [if_pos hk]
      right
      have h2 : d < 16 ∧ allS its (d + 1) = true := by
        unfold soundJ at h
        rcases hk with rfl | rfl
        · simp at h; exact h.2
        · simp at h; exact h.1.2
      rcases sound_deps its (d + 1) h2.2 with h3 | h3 <;> omega
    · rw [if_neg hk]; exact .inl rfl
theorem sound_deps : ∀ (its : List Js) (d : Nat), allS its d = true → depL its = 0 ∨ d + depL its ≤ 16
  | [], d, h => by rw [depL_nil]; exact .inl rfl
  | x :: xs, d, h => by
    unfold allS at h
    simp only [Bool.and_eq_true] at h
    rw [depL_cons]
    rcases sound_dep x d h.1 with h1 | h1 <;> rcases sound_deps xs d h.2 with h2 | h2 <;> omega
end
end Go.Proofs.YtelhgjepjieocaaDoor
