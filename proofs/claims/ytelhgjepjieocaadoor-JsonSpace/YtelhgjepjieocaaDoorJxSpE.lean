import Derived.Test.YtelhgjepjieocaaDoorJxBkR
/- Layer 18 (json): space behind a text changes nothing (plain). -/
namespace Go.Proofs.YtelhgjepjieocaaDoor
open Go.RowKit Go.Sort
set_option linter.unusedVariables false

def Sp (Q : List UInt8) : Prop := ∀ c ∈ Q, isSpN c.toNat = true
/-- The same text, with space behind it. -/
def Ex (l l' : List UInt8) : Prop := ∃ Q, Sp Q ∧ l' = l ++ Q
theorem Ex.refl (l : List UInt8) : Ex l l := ⟨[], fun c h => (by cases h), (List.append_nil l).symm⟩
theorem Sp.tail {c : UInt8} {Q : List UInt8} (h : Sp (c :: Q)) : isSpN c.toNat = true ∧ Sp Q := ⟨h c (List.mem_cons_self ..), fun x hx => h x (List.mem_cons_of_mem _ hx)⟩
theorem sp_sp : ∀ (Q : List UInt8), Sp Q → spL Q = []
  | [], _ => rfl
  | c :: Q, h => by
    show (if isSpN c.toNat then spL Q else c :: Q) = []
    rw [h.tail.1, if_pos rfl]
    exact sp_sp Q h.tail.2
theorem spL_front : ∀ (P l : List UInt8), Sp P → spL (P ++ l) = spL l
  | [], l, _ => rfl
  | c :: P, l, h => by
    show (if isSpN c.toNat then spL (P ++ l) else _) = _
    rw [h.tail.1, if_pos rfl]
    exact spL_front P l h.tail.2
theorem Ex.sp : ∀ {l l' : List UInt8}, Ex l l' → Ex (spL l) (spL l')
  | [], l', h => by
    obtain ⟨Q, hQ, e⟩ := h
    rw [e, List.nil_append, sp_sp Q hQ]
    exact Ex.refl []
  | c :: l, l', h => by
    obtain ⟨Q, hQ, rfl⟩ := h
    show Ex (if isSpN c.toNat then spL l else c :: l) (if isSpN c.toNat then spL (l ++ Q) else c :: (l ++ Q))
    cases isSpN c.toNat with
    | true => exact Ex.sp ⟨Q, hQ, rfl⟩
    | false => exact ⟨Q, hQ, rfl⟩
theorem sp_val {c : UInt8} (h : isSpN c.toNat = true) : c.toNat = 32 ∨ c.toNat = 9 ∨ c.toNat = 10 ∨ c.toNat = 13 := by
  unfold isSpN at h
  simpa [or_assoc] using h
/-- The byte ahead, unless it is a space. -/
theorem Ex.hd {l l' : List UInt8} (h : Ex l l') (c : Nat) (hc : isSpN c = false) : hdN l' = some c ↔ hdN l = some c := by
  obtain ⟨Q, hQ, rfl⟩ := h
  cases l with
  | nil =>
    cases Q with
    | nil => exact Iff.rfl
    | cons x Q =>
      refine ⟨fun e => ?_, fun e => by cases e⟩
      have e := Option.some.inj e
      rw [← e, hQ.tail.1] at hc
      cases hc
  | cons x l => exact Iff.rfl
theorem Ex.tl {l l' : List UInt8} {c : Nat} (h : Ex l l') (hc : hdN l = some c) : Ex l.tail l'.tail := by
  obtain ⟨Q, hQ, rfl⟩ := h
  cases l with
  | nil => cases hc
  | cons x l => exact ⟨Q, hQ, rfl⟩
theorem Ex.cons {l l' : List UInt8} (h : Ex l l') (c : UInt8) : Ex (c :: l) (c :: l') := by
  obtain ⟨Q, hQ, rfl⟩ := h
  exact ⟨Q, hQ, rfl⟩
theorem sp_dg {c : UInt8} (h : isSpN c.toNat = true) : dgU c = false := by
  have := sp_val h
  unfold dgU dgN
  simp; omega
theorem Sp.nod {Q : List UInt8} (h : Sp Q) : NoD Q := fun x l e => by rw [e] at h; exact sp_dg h.tail.1
theorem take_sp {Q : List UInt8} (h : Sp Q) : ∀ l : List UInt8, (l ++ Q).takeWhile dgU = l.takeWhile dgU ∧ (l ++ Q).dropWhile dgU = l.dropWhile dgU ++ Q
  | [] => ⟨h.nod.take.1, h.nod.take.2⟩
  | c :: l => by
    have := take_sp h l
    rw [List.cons_append, List.takeWhile_cons, List.dropWhile_cons, List.takeWhile_cons, List.dropWhile_cons]
    cases dgU c with
    | true => exact ⟨by simp [this.1], by simp [this.2]⟩
    | false => exact ⟨rfl, rfl⟩
theorem pref_sp {Q : List UInt8} (h : Sp Q) : ∀ (p l : List UInt8), (∀ c ∈ p, isSpN c.toNat = false) → Lib.hasPrefix (l ++ Q) p = Lib.hasPrefix l p
  | [], l, _ => by cases l <;> cases Q <;> rfl
  | c :: p, [], hp => by
    cases Q with
    | nil => rfl
    | cons x Q =>
      show ((c == x) && Lib.hasPrefix Q p) = false
      have : (c == x) = false := by
        have h1 := hp c (by simp)
        have h2 := h.tail.1
        simp
        rintro rfl
        rw [h1] at h2; cases h2
      rw [this]; rfl
  | c :: p, x :: l, hp => by
    show ((c == x) && Lib.hasPrefix (l ++ Q) p) = ((c == x) && Lib.hasPrefix l p)
    rw [pref_sp h p l (fun y hy => hp y (by simp [hy]))]
/-- What two readers of alike texts answer. -/
def ExP : Option (Int × Int × List UInt8) → Option (Int × Int × List UInt8) → Prop
  | some (a, b, r), q => ∃ r', q = some (a, b, r') ∧ Ex r r'
  | none, q => q = none
theorem numP_ex {l l' : List UInt8} (h : Ex l l') (hne : l ≠ []) : ExP (numP l) (numP l') := by
  obtain ⟨Q, hQ, rfl⟩ := h
  have hh : hdN (l ++ Q) = hdN l := by
    cases l with
    | nil => exact absurd rfl hne
    | cons c l => rfl
  have ht : tkL (l ++ Q) 45 = tkL l 45 ++ Q := by
    unfold tkL
    rw [hh]
    cases l with
    | nil => exact absurd rfl hne
    | cons c l => split <;> rfl
  have h1 : numT (l ++ Q) = numT l := by
    unfold numT
    rw [hh, ht, (take_sp hQ _).1]
  have h2 : numR (l ++ Q) = numR l ++ Q := by
    unfold numR
    rw [ht, (take_sp hQ _).2]
  unfold numP
  rw [h1, h2]
  cases Lib.parseIntB 64 (numT l) with
  | ok v =>
    by_cases hv : Lib.itoa v = numT l
    · simp only [if_pos hv]
      exact ⟨_, rfl, Q, hQ, rfl⟩
    · simp only [if_neg hv]
      rfl
  | range => rfl
  | «syntax» => rfl
theorem wordP_ex {l l' : List UInt8} (h : Ex l l') : ExP (wordP l) (wordP l') := by
  obtain ⟨Q, hQ, rfl⟩ := h
  unfold wordP
  rw [pref_sp hQ wNull.data.toList l (by decide), pref_sp hQ wTrue.data.toList l (by decide), pref_sp hQ wFalse.data.toList l (by decide)]
  by_cases h1 : Lib.hasPrefix l wNull.data.toList = true
  · rw [if_pos h1, if_pos h1]
    have := hasPrefix_len h1
    have e : wNull.data.toList.length = 4 := by decide
    exact ⟨_, rfl, Q, hQ, List.drop_append_of_le_length (by omega)⟩
  rw [if_neg h1, if_neg h1]
  by_cases h2 : Lib.hasPrefix l wTrue.data.toList = true
  · rw [if_pos h2, if_pos h2]
    have := hasPrefix_len h2
    have e : wTrue.data.toList.length = 4 := by decide
    exact ⟨_, rfl, Q, hQ, List.drop_append_of_le_length (by omega)⟩
  rw [if_neg h2, if_neg h2]
  by_cases h3 : Lib.hasPrefix l wFalse.data.toList = true
  · rw [if_pos h3, if_pos h3]
    have := hasPrefix_len h3
    have e : wFalse.data.toList.length = 5 := by decide
    exact ⟨_, rfl, Q, hQ, List.drop_append_of_le_length (by omega)⟩
  rw [if_neg h3, if_neg h3]
  rfl
end Go.Proofs.YtelhgjepjieocaaDoor

/- Layer 18 (json): space behind a text changes nothing: texts, values (plain). -/
namespace Go.Proofs.YtelhgjepjieocaaDoor
open Go.RowKit Go.Sort
set_option linter.unusedVariables false

theorem sp_hex {c : UInt8} (h : isSpN c.toNat = true) : hexN c.toNat = none := by
  have := sp_val h
  unfold hexN
  rw [if_neg (by omega), if_neg (by omega), if_neg (by omega)]
theorem hexF_sp : ∀ (l : List UInt8) (v : Nat), (∃ c ∈ l, isSpN c.toNat = true) → hexF v l = none
  | [], v, h => by obtain ⟨c, hc, _⟩ := h; cases hc
  | x :: l, v, h => by
    unfold hexF
    cases hx : hexN x.toNat with
    | none => rfl
    | some d =>
      show (if v * 16 + d ≤ 127 then hexF (v * 16 + d) l else none) = none
      split
      · refine hexF_sp l _ ?_
        obtain ⟨c, hc, hs⟩ := h
        rcases List.mem_cons.1 hc with rfl | hc
        · rw [sp_hex hs] at hx; cases hx
        · exact ⟨c, hc, hs⟩
      · rfl
def ExC : Option (Nat × List UInt8) → Option (Nat × List UInt8) → Prop
  | some (c, r), q => ∃ r', q = some (c, r') ∧ Ex r r'
  | none, q => q = none
theorem hex4P_ex {l l' : List UInt8} (h : Ex l l') : ExC (hex4P l) (hex4P l') := by
  obtain ⟨Q, hQ, rfl⟩ := h
  unfold hex4P
  by_cases h4 : 4 ≤ l.length
  · rw [if_pos h4, if_pos (by rw [List.length_append]; omega), List.take_append_of_le_length h4, List.drop_append_of_le_length h4]
    cases hexF 0 (l.take 4) with
    | none => rfl
    | some v => exact ⟨_, rfl, Q, hQ, rfl⟩
  · rw [if_neg h4]
    by_cases h5 : 4 ≤ (l ++ Q).length
    · rw [if_pos h5, hexF_sp]
      · rfl
      · rw [List.length_append] at h5
        cases Q with
        | nil => simp at h5; omega
        | cons c Q =>
          refine ⟨c, ?_, hQ.tail.1⟩
          rw [List.take_append]
          refine List.mem_append_right _ ?_
          obtain ⟨m, hm⟩ : ∃ m, 4 - l.length = m + 1 := ⟨4 - l.length - 1, by omega⟩
          rw [hm]
          simp
    · rw [if_neg h5]; rfl
theorem escP_ex {l l' : List UInt8} (h : Ex l l') : ExC (escP l) (escP l') := by
  obtain ⟨Q, hQ, e⟩ := h
  cases l with
  | nil =>
    rw [e, List.nil_append]
    cases Q with
    | nil => rfl
    | cons c Q =>
      have := sp_val hQ.tail.1
      show (if c.toNat = 117 then hex4P Q else (escV c.toNat).map fun v => (v, Q)) = none
      rw [if_neg (by omega)]
      have : escV c.toNat = none := by
        unfold escV
        rw [if_neg (by omega), if_neg (by omega), if_neg (by omega), if_neg (by omega), if_neg (by omega), if_neg (by omega), if_neg (by omega), if_neg (by omega)]
      rw [this]; rfl
  | cons u l =>
    rw [e]
    show ExC (if u.toNat = 117 then hex4P l else (escV u.toNat).map fun v => (v, l)) (if u.toNat = 117 then hex4P (l ++ Q) else (escV u.toNat).map fun v => (v, l ++ Q))
    by_cases hu : u.toNat = 117
    · rw [if_pos hu, if_pos hu]
      exact hex4P_ex ⟨Q, hQ, rfl⟩
    · rw [if_neg hu, if_neg hu]
      cases escV u.toNat with
      | none => rfl
      | some v => exact ⟨_, rfl, Q, hQ, rfl⟩
theorem charP_ex {l l' : List UInt8} (h : Ex l l') (hne : l ≠ []) : ExC (charP l) (charP l') := by
  obtain ⟨Q, hQ, e⟩ := h
  cases l with
  | nil => exact absurd rfl hne
  | cons x l =>
    rw [e]
    show ExC (if x.toNat = 92 then escP l else if x.toNat < 32 then none else some (x.toNat, l)) (if x.toNat = 92 then escP (l ++ Q) else if x.toNat < 32 then none else some (x.toNat, l ++ Q))
    by_cases h92 : x.toNat = 92
    · rw [if_pos h92, if_pos h92]
      exact escP_ex ⟨Q, hQ, rfl⟩
    · rw [if_neg h92, if_neg h92]
      by_cases h32 : x.toNat < 32
      · rw [if_pos h32, if_pos h32]; rfl
      · rw [if_neg h32, if_neg h32]
        exact ⟨_, rfl, Q, hQ, rfl⟩
theorem chF_sp : ∀ (k : Nat) (Q : List UInt8), Sp Q → chF k Q = none
  | 0, Q, h => rfl
  | k + 1, [], h => rfl
  | k + 1, c :: Q, h => by
    have hv := sp_val h.tail.1
    rw [chF_step (hdN_ne (by omega))]
    show chS k (if c.toNat = 92 then escP Q else if c.toNat < 32 then none else some (c.toNat, Q)) = none
    rw [if_neg (by omega)]
    by_cases h32 : c.toNat < 32
    · rw [if_pos h32]; rfl
    · rw [if_neg h32]
      show (chF k Q).map _ = none
      rw [chF_sp k Q h.tail.2]
      rfl
def ExT : Option (List UInt8 × List UInt8) → Option (List UInt8 × List UInt8) → Prop
  | some (c, r), q => ∃ r', q = some (c, r') ∧ Ex r r'
  | none, q => q = none
theorem chF_ex : ∀ (k k' : Nat) {l l' : List UInt8}, Ex l l' → l.length < k → l'.length < k' → ExT (chF k l) (chF k' l')
  | 0, k', l, l', h, h1, h2 => by omega
  | k + 1, 0, l, l', h, h1, h2 => by omega
  | k + 1, k' + 1, l, l', h, h1, h2 => by
    cases l with
    | nil =>
      obtain ⟨Q, hQ, e⟩ := h
      rw [e, List.nil_append, chF_sp _ Q hQ]
      rfl
    | cons x l =>
      by_cases h34 : hdN (x :: l) = some 34
      · rw [chF_end h34, chF_end ((h.hd 34 (by decide)).2 h34)]
        exact ⟨_, rfl, h.tl h34⟩
      · rw [chF_step h34, chF_step (fun e => h34 ((h.hd 34 (by decide)).1 e))]
        have hc := charP_ex h (by simp)
        cases hp : charP (x :: l) with
        | none => rw [hp] at hc; rw [show charP l' = none from hc]; rfl
        | some p =>
          obtain ⟨c, r⟩ := p
          rw [hp] at hc
          obtain ⟨r', e, hr⟩ := hc
          rw [e]
          have hl1 := (charP_len hp).2
          have hl2 := (charP_len e).2
          have := chF_ex k k' hr (by omega) (by omega)
          show ExT ((chF k r).map fun p => (c.toUInt8 :: p.1, p.2)) ((chF k' r').map fun p => (c.toUInt8 :: p.1, p.2))
          cases hk : chF k r with
          | none => rw [hk] at this; rw [show chF k' r' = none from this]; rfl
          | some p =>
            obtain ⟨t, r2⟩ := p
            rw [hk] at this
            obtain ⟨r3, e3, h3⟩ := this
            rw [e3]
            exact ⟨_, rfl, h3⟩
theorem textP_ex {l l' : List UInt8} (h : Ex l l') : ExT (textP l) (textP l') := by
  unfold textP
  by_cases h34 : hdN l = some 34
  · have h34' := (h.hd 34 (by decide)).2 h34
    rw [if_pos h34, if_pos h34']
    refine chF_ex _ _ (h.tl h34) ?_ ?_
    · cases l with
      | nil => cases h34
      | cons x l => simp
    · cases l' with
      | nil => cases h34'
      | cons x l => simp
  · rw [if_neg h34, if_neg (fun e => h34 ((h.hd 34 (by decide)).1 e))]
    rfl
def ExN : Except Int (List UInt8 × List UInt8) → Except Int (List UInt8 × List UInt8) → Prop
  | .ok (c, r), q => ∃ r', q = .ok (c, r') ∧ Ex r r'
  | .error c, q => q = .error c
theorem nameP_ex (ns : List (List UInt8)) {l l' : List UInt8} (h : Ex l l') : ExN (nameP ns l) (nameP ns l') := by
  have ht := textP_ex h.sp
  unfold nameP
  cases hp : textP (spL l) with
  | none => rw [hp] at ht; rw [show textP (spL l') = none from ht]; rfl
  | some p =>
    obtain ⟨t, r⟩ := p
    rw [hp] at ht
    obtain ⟨r', e, hr⟩ := ht
    rw [e]
    show ExN (if t ∈ ns then .error 183 else if hdN (spL r) = some 58 then .ok (t, (spL r).tail) else .error 181) (if t ∈ ns then .error 183 else if hdN (spL r') = some 58 then .ok (t, (spL r').tail) else .error 181)
    by_cases hm : t ∈ ns
    · rw [if_pos hm, if_pos hm]; rfl
    · rw [if_neg hm, if_neg hm]
      by_cases h58 : hdN (spL r) = some 58
      · rw [if_pos h58, if_pos ((hr.sp.hd 58 (by decide)).2 h58)]
        exact ⟨_, rfl, hr.sp.tl h58⟩
      · rw [if_neg h58, if_neg (fun e => h58 ((hr.sp.hd 58 (by decide)).1 e))]
        rfl
def ExV : Except Int (Js × List UInt8) → Except Int (Js × List UInt8) → Prop
  | .ok (c, r), q => ∃ r', q = .ok (c, r') ∧ Ex r r'
  | .error c, q => q = .error c
def ExE : Except Int (List (List UInt8) × List UInt8) → Except Int (List (List UInt8) × List UInt8) → Prop
  | .ok (c, r), q => ∃ r', q = .ok (c, r') ∧ Ex r r'
  | .error c, q => q = .error c
theorem elN_ex (kind : Int) (ns : List (List UInt8)) {l l' : List UInt8} (h : Ex l l') : ExE (elN kind ns l) (elN kind ns l') := by
  unfold elN
  by_cases hk : kind = 6
  · rw [if_pos hk, if_pos hk]
    have := nameP_ex ns h
    cases hp : nameP ns l with
    | error c => rw [hp] at this; rw [show nameP ns l' = .error c from this]; rfl
    | ok p =>
      obtain ⟨t, r⟩ := p
      rw [hp] at this
      obtain ⟨r', e, hr⟩ := this
      rw [e]
      exact ⟨_, rfl, hr⟩
  · rw [if_neg hk, if_neg hk]
    exact ⟨_, rfl, h⟩
end Go.Proofs.YtelhgjepjieocaaDoor
