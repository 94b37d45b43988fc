import Derived.Test.YtelhgjepjieocaaDoorJxRng
import Derived.Test.YtelhgjepjieocaaDoorJxRfA
/- Layer 18 (json): what is printed is read again: numbers, texts. -/
namespace Go.Proofs.YtelhgjepjieocaaDoor
open Go.RowKit Go.Sort
set_option linter.unusedVariables false

/-- No digit is ahead. -/
def NoD (rest : List UInt8) : Prop := ∀ x l, rest = x :: l → dgU x = false
theorem NoD.take {rest : List UInt8} (h : NoD rest) : rest.takeWhile dgU = [] ∧ rest.dropWhile dgU = rest := by
  cases rest with
  | nil => exact ⟨rfl, rfl⟩
  | cons x l =>
    have := h x l rfl
    rw [List.takeWhile_cons, List.dropWhile_cons, this]
    exact ⟨rfl, rfl⟩
theorem dig_lit {u : Nat} (h : u < 10) : (UInt8.ofNat (48 + u)).toNat = 48 + u := by
  rw [UInt8.toNat_ofNat']; omega
theorem dec_dig : ∀ (u : Nat), Dig (Lib.decDigits u) ∧ valD 0 (Lib.decDigits u) = u := by
  intro u
  induction u using Nat.strongRecOn with
  | _ u ih =>
    by_cases h : u < 10
    · rw [Lib.decDigits_one h]
      refine ⟨fun c hc => ?_, ?_⟩
      · rw [List.mem_singleton.1 hc, dig_lit h]; omega
      · show 0 * 10 + ((UInt8.ofNat (48 + u)).toNat - 48) = u
        rw [dig_lit h]; omega
    · have h1 := ih (u / 10) (by omega)
      rw [Lib.decDigits, dif_neg h]
      refine ⟨fun c hc => ?_, ?_⟩
      · rcases List.mem_append.1 hc with hc | hc
        · exact h1.1 c hc
        · rw [List.mem_singleton.1 hc, dig_lit (by omega)]; omega
      · rw [valD_append, h1.2, dig_lit (by omega)]; omega
theorem dec_len {u : Nat} (h : u ≤ 9223372036854775808) : (Lib.decDigits u).length ≤ 19 := by
  have hc := (dec_can u).1
  have hd := dec_dig u
  generalize Lib.decDigits u = l at hc hd
  cases l with
  | nil => simp
  | cons c l =>
    by_cases hl : l.length ≤ 18
    · simp; omega
    · have h1 : c.toNat ≠ 48 := fun e => hc.2 ⟨by simp; omega, by show some c.toNat = _; rw [e]⟩
      have h2 := valD_pos hd.1 h1
      rw [hd.2] at h2
      have h3 : 10 ^ 19 ≤ 10 ^ l.length := Nat.pow_le_pow_right (by omega) (by omega)
      omega
theorem dgU_dig {l : List UInt8} (h : Dig l) : ∀ a ∈ l, dgU a = true := fun a ha => by
  have := h a ha
  unfold dgU dgN
  simp; omega
theorem numP_back (n : Int) (hn : -9223372036854775808 ≤ n ∧ n ≤ 9223372036854775807) (rest : List UInt8) (hr : NoD rest) : numP (Lib.itoa n ++ rest) = some (3, n, rest) := by
  rw [numP_doc]
  rcases Int.lt_or_le n 0 with h0 | h0
  · obtain ⟨u, rfl⟩ : ∃ u : Nat, n = -(u : Int) := ⟨n.natAbs, by omega⟩
    have hu : 1 ≤ u := by omega
    have hd := dec_dig u
    have hc := (dec_can u).1
    have hl := dec_len (u := u) (by omega)
    rw [itoa_neg' hu]
    have h1 : hdN (45 :: Lib.decDigits u ++ rest) = some 45 := rfl
    have h2 : tkL (45 :: Lib.decDigits u ++ rest) 45 = Lib.decDigits u ++ rest := tkL_yes h1
    have h3 : digs (45 :: Lib.decDigits u ++ rest) = Lib.decDigits u := by
      unfold digs
      rw [h2, List.takeWhile_append_of_pos (dgU_dig hd.1), hr.take.1, List.append_nil]
    have h4 : numR (45 :: Lib.decDigits u ++ rest) = rest := by
      unfold numR
      rw [h2, List.dropWhile_append_of_pos (dgU_dig hd.1), hr.take.2]
    unfold docN
    rw [h3, h4, hd.2, if_neg, if_pos h1, if_neg (by omega)]
    · rfl
    · rintro (h | h | h | h)
      · exact hc.1 h
      · omega
      · exact hc.2 h
      · omega
  · obtain ⟨u, rfl⟩ : ∃ u : Nat, n = (u : Int) := ⟨n.natAbs, by omega⟩
    have hd := dec_dig u
    have hc := (dec_can u).1
    have hl := dec_len (u := u) (by omega)
    rw [show Lib.itoa (u : Int) = Lib.decDigits u from Lib.itoa_nonneg u]
    have h1 : ¬ hdN (Lib.decDigits u ++ rest) = some 45 := by
      cases hq : Lib.decDigits u with
      | nil => exact absurd hq hc.1
      | cons c l =>
        intro e
        have e := Option.some.inj e
        have := hd.1 c (by rw [hq]; simp)
        omega
    have h2 : tkL (Lib.decDigits u ++ rest) 45 = Lib.decDigits u ++ rest := tkL_no h1
    have h3 : digs (Lib.decDigits u ++ rest) = Lib.decDigits u := by
      unfold digs
      rw [h2, List.takeWhile_append_of_pos (dgU_dig hd.1), hr.take.1, List.append_nil]
    have h4 : numR (Lib.decDigits u ++ rest) = rest := by
      unfold numR
      rw [h2, List.dropWhile_append_of_pos (dgU_dig hd.1), hr.take.2]
    unfold docN
    rw [h3, h4, hd.2, if_neg, if_neg h1, if_neg (by omega)]
    · rfl
    · rintro (h | h | h | h)
      · exact hc.1 h
      · omega
      · exact hc.2 h
      · exact h1 h.1

/-! ### texts -/
/-- A byte's print, as bytes. -/
def chB (c : UInt8) : List UInt8 := (chrP c.toNat).map UInt8.ofNat
def flB (t : List UInt8) : List UInt8 := t.flatMap chB
theorem esc_all : ∀ c : Fin 256, ((escL c.val).all fun x => decide (x < 256) && decide (x ≠ 117) && decide (escV x = some c.val)) = true := by decide +kernel
theorem esc_back (c : Fin 256) (x : Nat) (h : escL c.val = some x) : x < 256 ∧ x ≠ 117 ∧ escV x = some c.val := by
  have := esc_all c
  rw [h] at this
  simp only [Option.all_some, Bool.and_eq_true, decide_eq_true_eq] at this
  exact ⟨this.1.1, this.1.2, this.2⟩
theorem hex_back : ∀ c : Fin 32, hexF 0 [48, 48, UInt8.ofNat (hexD (c.val / 16)), UInt8.ofNat (hexD (c.val % 16))] = some c.val := by decide +kernel
theorem charP_back (c : UInt8) (r : List UInt8) : charP (chB c ++ r) = some (c.toNat, r) ∧ hdN (chB c ++ r) ≠ some 34 ∧ 1 ≤ (chB c).length := by
  have hc := c.toNat_lt
  unfold chB chrP
  cases he : escL c.toNat with
  | some x =>
    obtain ⟨h1, h2, h3⟩ := esc_back ⟨c.toNat, hc⟩ x he
    have hx : (UInt8.ofNat x).toNat = x := by rw [UInt8.toNat_ofNat']; omega
    refine ⟨?_, ?_, by simp⟩
    · show escP (UInt8.ofNat x :: r) = _
      show (if (UInt8.ofNat x).toNat = 117 then hex4P r else (escV (UInt8.ofNat x).toNat).map fun v => (v, r)) = _
      rw [hx, if_neg h2, h3]
      rfl
    · show some 92 ≠ some 34
      decide
  | none =>
    by_cases h32 : c.toNat < 32
    · simp only [if_pos h32]
      refine ⟨?_, ?_, by simp⟩
      · have hh := hex_back ⟨c.toNat, h32⟩
        show escP (117 :: 48 :: 48 :: UInt8.ofNat (hexD (c.toNat / 16)) :: UInt8.ofNat (hexD (c.toNat % 16)) :: r) = _
        show hex4P (48 :: 48 :: UInt8.ofNat (hexD (c.toNat / 16)) :: UInt8.ofNat (hexD (c.toNat % 16)) :: r) = _
        unfold hex4P
        rw [if_pos (by simp)]
        show (hexF 0 [48, 48, UInt8.ofNat (hexD (c.toNat / 16)), UInt8.ofNat (hexD (c.toNat % 16))]).map (fun v => (v, r)) = _
        rw [hh]
        rfl
      · show some 92 ≠ some 34
        decide
    · simp only [if_neg h32]
      have e : UInt8.ofNat c.toNat = c := by simp
      have n92 : c.toNat ≠ 92 := fun e => by rw [e] at he; cases he
      have n34 : c.toNat ≠ 34 := fun e => by rw [e] at he; cases he
      refine ⟨?_, ?_, by simp⟩
      · show charP (UInt8.ofNat c.toNat :: r) = _
        rw [e]
        show (if c.toNat = 92 then escP r else if c.toNat < 32 then none else some (c.toNat, r)) = _
        rw [if_neg n92, if_neg h32]
      · show some (UInt8.ofNat c.toNat).toNat ≠ some 34
        rw [e]
        exact fun h => n34 (Option.some.inj h)
theorem chF_back : ∀ (t : List UInt8) (m : Nat) (rest : List UInt8), t.length + 1 ≤ m → chF m (flB t ++ 34 :: rest) = some (t, rest)
  | [], m + 1, rest, h => chF_end rfl
  | c :: t, m + 1, rest, h => by
    have e : flB (c :: t) ++ 34 :: rest = chB c ++ (flB t ++ 34 :: rest) := by simp [flB]
    obtain ⟨h1, h2, -⟩ := charP_back c (flB t ++ 34 :: rest)
    rw [e, chF_step h2, h1]
    show (chF m (flB t ++ 34 :: rest)).map (fun p => (c.toNat.toUInt8 :: p.1, p.2)) = _
    rw [chF_back t m rest (by simp at h; omega)]
    simp
theorem flB_len : ∀ t : List UInt8, t.length ≤ (flB t).length
  | [] => Nat.le_refl _
  | c :: t => by
    have h1 := (charP_back c []).2.2
    have h2 := flB_len t
    simp only [flB, List.flatMap_cons, List.length_append, List.length_cons] at *
    omega
theorem textP_back (t rest : List UInt8) : textP (34 :: (flB t ++ 34 :: rest)) = some (t, rest) := by
  unfold textP
  rw [if_pos (by rfl)]
  exact chF_back t _ rest (by have := flB_len t; simp; omega)
end Go.Proofs.YtelhgjepjieocaaDoor

/- Layer 18 (json): a value's print, plain. -/
namespace Go.Proofs.YtelhgjepjieocaaDoor
open Go.RowKit Go.Sort
set_option linter.unusedVariables false

def ptx (t : List UInt8) : List UInt8 := 34 :: (flB t ++ [34])
mutual
/-- The print. -/
def pv : Js → List UInt8
  | .mk k n t ns its =>
    if k = 2 then (if n = 1 then [116, 114, 117, 101] else [102, 97, 108, 115, 101])
    else if k = 3 then Lib.itoa n
    else if k = 4 then ptx t
    else if k = 5 then 91 :: (pis false true ns its ++ [93])
    else if k = 6 then 123 :: (pis true true ns its ++ [125])
    else [110, 117, 108, 108]
def pis : Bool → Bool → List (List UInt8) → List Js → List UInt8
  | _, _, _, [] => []
  | obj, first, ns, x :: xs => (if first then [] else [44]) ++ ((if obj then ptx (ns.headD []) ++ [58] else []) ++ (pv x ++ pis obj false ns.tail xs))
end
def nats (l : List UInt8) : List Nat := l.map UInt8.toNat
theorem nats_append (a b : List UInt8) : nats (a ++ b) = nats a ++ nats b := List.map_append
theorem nats_len (a : List UInt8) : (nats a).length = a.length := List.length_map _
theorem chrP_nats (c : UInt8) : chrP c.toNat = nats (chB c) := by
  unfold nats chB
  rw [List.map_map]
  have h := byt_chrP c.toNat_lt
  refine (List.map_id _).symm.trans (List.map_congr_left fun x hx => ?_)
  have := h x hx
  simp; omega
theorem chrsP_grow : ∀ (cs l : List Nat), l.length ≤ (chrsP cs l).length
  | [], l => Nat.le_refl _
  | c :: cs, l => by
    unfold chrsP
    split
    · exact Nat.le_refl _
    · refine Nat.le_trans ?_ (chrsP_grow cs _)
      simp
theorem chrsP_is : ∀ (t : List UInt8) (l : List Nat), (chrsP (t.map UInt8.toNat) l).length ≤ 65536 → chrsP (t.map UInt8.toNat) l = l ++ nats (flB t)
  | [], l, h => by simp [chrsP, flB, nats]
  | c :: t, l, h => by
    rw [List.map_cons] at h ⊢
    unfold chrsP at h ⊢
    split at h
    · omega
    · rename_i hl
      rw [if_neg hl, chrsP_is t _ h, chrP_nats, List.append_assoc, ← nats_append]
      simp [flB]
theorem txtP_grow (t : List UInt8) (l : List Nat) : l.length + 2 ≤ (txtP (nmB t) l).length := by
  unfold txtP
  have := chrsP_grow (bytesN (nmB t) 0) (l ++ [34])
  simp at this ⊢
  omega
theorem txtP_is (t : List UInt8) (l : List Nat) (h : (txtP (nmB t) l).length ≤ 65536) : txtP (nmB t) l = l ++ nats (ptx t) := by
  unfold txtP at h ⊢
  have e : bytesN (nmB t) 0 = t.map UInt8.toNat := by unfold bytesN tl nmB; simp
  rw [e] at h ⊢
  rw [chrsP_is t _ (by simp at h ⊢; omega)]
  simp [ptx, nats]
theorem numD_nats (n : Int) : numD n = nats (Lib.itoa n) := rfl
mutual
theorem valP_grow : ∀ (v : Js) (l : List Nat), l.length ≤ (valP v l).length
  | .mk k n t ns its, l => by
    unfold valP
    split
    · simp
    · split
      · simp
      · split
        · have := txtP_grow t l; omega
        · split
          · have := itsP_grow its false true ns (l ++ [91]); simp at this ⊢; omega
          · split
            · have := itsP_grow its true true ns (l ++ [123]); simp at this ⊢; omega
            · simp
theorem itsP_grow : ∀ (its : List Js) (obj first : Bool) (ns : List (List UInt8)) (l : List Nat), l.length ≤ (itsP obj first ns its l).length
  | [], obj, first, ns, l => by unfold itsP; exact Nat.le_refl _
  | x :: xs, obj, first, ns, l => by
    unfold itsP
    split
    · exact Nat.le_refl _
    · refine Nat.le_trans (Nat.le_trans ?_ (valP_grow x _)) (itsP_grow xs obj false ns.tail _)
      cases obj with
      | true =>
        rw [if_pos rfl]
        have := txtP_grow (ns.headD []) (if first then l else l ++ [44])
        cases first <;> simp at this ⊢ <;> omega
      | false => cases first <;> simp
end
mutual
theorem valP_is : ∀ (v : Js) (l : List Nat), (valP v l).length ≤ 65536 → valP v l = l ++ nats (pv v)
  | .mk k n t ns its, l, h => by
    unfold valP at h ⊢
    unfold pv
    by_cases h2 : k = 2
    · rw [if_pos h2, if_pos h2]
      by_cases h1 : n = 1
      · rw [if_pos h1, if_pos h1]; rfl
      · rw [if_neg h1, if_neg h1]; rfl
    rw [if_neg h2] at h ⊢
    rw [if_neg h2]
    by_cases h3 : k = 3
    · rw [if_pos h3, if_pos h3, numD_nats]
    rw [if_neg h3] at h ⊢
    rw [if_neg h3]
    by_cases h4 : k = 4
    · rw [if_pos h4] at h ⊢
      rw [if_pos h4]
      exact txtP_is t l h
    rw [if_neg h4] at h ⊢
    rw [if_neg h4]
    by_cases h5 : k = 5
    · rw [if_pos h5] at h ⊢
      rw [if_pos h5, itsP_is its false true ns _ (by simp at h ⊢; omega)]
      simp [nats]
    rw [if_neg h5] at h ⊢
    rw [if_neg h5]
    by_cases h6 : k = 6
    · rw [if_pos h6] at h ⊢
      rw [if_pos h6, itsP_is its true true ns _ (by simp at h ⊢; omega)]
      simp [nats]
    rw [if_neg h6, if_neg h6]
    rfl
theorem itsP_is : ∀ (its : List Js) (obj first : Bool) (ns : List (List UInt8)) (l : List Nat), (itsP obj first ns its l).length ≤ 65536 → itsP obj first ns its l = l ++ nats (pis obj first ns its)
  | [], obj, first, ns, l, h => by unfold itsP pis; simp [nats]
  | x :: xs, obj, first, ns, l, h => by
    unfold itsP at h ⊢
    unfold pis
    split at h
    · omega
    · rename_i hl
      rw [if_neg hl]
      have h1 := itsP_grow xs obj false ns.tail (valP x (if obj then txtP (nmB (ns.headD [])) (if first then l else l ++ [44]) ++ [58] else (if first then l else l ++ [44])))
      have h2 := valP_grow x (if obj then txtP (nmB (ns.headD [])) (if first then l else l ++ [44]) ++ [58] else (if first then l else l ++ [44]))
      have h3 := Nat.le_trans (Nat.le_trans h2 h1) h
      rw [itsP_is xs obj false ns.tail _ h, valP_is x _ (by omega)]
      clear h1 h2 h
      cases obj with
      | true =>
        simp only [if_true] at h3 ⊢
        rw [txtP_is (ns.headD []) _ (by simp only [List.length_append, List.length_cons, List.length_nil] at h3; omega)]
        cases first <;> simp [nats]
      | false => cases first <;> simp [nats]
end
theorem printJ_is (v : Js) : soundJ v 0 = true → (printJ v).2 = 0 → bytesOfN (printJ v).1 = pv v ∧ (pv v).length ≤ 65536 := by
  intro hs h
  unfold printJ at h ⊢
  rw [if_pos hs] at h ⊢
  split at h
  · cases h
  · rename_i hl
    rw [if_neg hl]
    have h1 := valP_is v [] (by omega)
    rw [h1, List.nil_append] at hl ⊢
    refine ⟨?_, by rw [nats_len] at hl; omega⟩
    show bytesOfN (nats (pv v)) = pv v
    unfold bytesOfN nats
    rw [List.map_map]
    exact (List.map_congr_left fun c _ => by simp).trans (List.map_id _)
end Go.Proofs.YtelhgjepjieocaaDoor
