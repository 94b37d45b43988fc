/- Layer 18 (json): a value by its first byte, plain. -/
import Derived.Test.YtelhgjepjieocaaDoorJxRvM
import Derived.Test.YtelhgjepjieocaaDoorJxRfE
namespace Go.Proofs.YtelhgjepjieocaaDoor
open Go.RowKit Go.Sort
set_option linter.unusedVariables false

/-- What stands behind a bracket. -/
def inF (k : Nat) (kind : Int) (e d : Nat) (l : List UInt8) : Except Int (Js × List UInt8) := if hdN (spL l.tail) = some e then .ok (.mk kind 0 [] [] [], (spL l.tail).tail) else elF k kind e d (spL l.tail) [] []
theorem bareF_nil {K d : Nat} {l : List UInt8} (h : hdN l = none) : bareF (K + 1) d l = .error 181 := by
  cases l with
  | nil => unfold bareF; rfl
  | cons x l => cases h
theorem bareF_sq {K d : Nat} {l : List UInt8} (h : hdN l = some 91) : bareF (K + 1) d l = if d = 16 then .error 182 else inF K 5 93 d l := by
  unfold bareF inF
  rw [if_pos h]
theorem bareF_br {K d : Nat} {l : List UInt8} (h : hdN l = some 123) : bareF (K + 1) d l = if d = 16 then .error 182 else inF K 6 125 d l := by
  unfold bareF inF
  rw [if_neg (by rw [h]; decide), if_pos h]
theorem bareF_tx {K d : Nat} {l : List UInt8} (h : hdN l = some 34) : bareF (K + 1) d l = txR (textP l) := by
  unfold bareF
  rw [if_neg (by rw [h]; decide), if_neg (by rw [h]; decide), if_pos h]
theorem bareF_rest {K d c : Nat} {l : List UInt8} (h : hdN l = some c) (h1 : c ≠ 91) (h2 : c ≠ 123) (h3 : c ≠ 34) : bareF (K + 1) d l = if c = 45 ∨ dgN c = true then plR (numP l) else plR (wordP l) := by
  unfold bareF
  rw [if_neg (by rw [h]; simp [h1]), if_neg (by rw [h]; simp [h2]), if_neg (by rw [h]; simp [h3]), h]
  simp
theorem word_pref (s x : ByteArray) (n : Nat) (hn : n ≤ s.size) : (n + x.size ≤ s.size ∧ s.extract n (n + x.size) = x) ↔ Lib.hasPrefix (tl s n) x.data.toList = true := by
  have hx : x.data.toList.length = x.size := by rw [Array.length_toList]; rfl
  rw [← Lib.hasPrefix_of_take, Bool.and_eq_true, decide_eq_true_iff, beq_iff_eq, hx, tl_length]
  have e1 : (s.extract n (n + x.size)).data.toList = (tl s n).take x.size := by
    rw [extract_take, show n + x.size - n = x.size by omega]
  constructor
  · rintro ⟨h1, h2⟩
    exact ⟨by omega, by rw [← e1, h2]⟩
  · rintro ⟨h1, h2⟩
    refine ⟨by omega, ByteArray.ext (Array.toList_inj.1 ?_)⟩
    rw [e1]; exact h2
theorem pref_no {l p : List UInt8} {c : Nat} {x : UInt8} (h : hdN l = some c) (hx : x.toNat ≠ c) : Lib.hasPrefix l (x :: p) = false := by
  cases l with
  | nil => cases h
  | cons y l =>
    have h1 : y.toNat = c := Option.some.inj h
    show (x :: p).isPrefixOf (y :: l) = false
    have h2 : (x == y) = false := by
      rw [beq_eq_false_iff_ne]
      intro e
      exact hx (by rw [e]; exact h1)
    simp [List.isPrefixOf, h2]
theorem wordP_n {l : List UInt8} (h : hdN l = some 110) : wordP l = if Lib.hasPrefix l wNull.data.toList = true then some (1, 0, l.drop 4) else none := by
  unfold wordP
  have h1 : Lib.hasPrefix l wTrue.data.toList = false := pref_no h (by decide)
  have h2 : Lib.hasPrefix l wFalse.data.toList = false := pref_no h (by decide)
  rw [h1, h2]; rfl
theorem wordP_t {l : List UInt8} (h : hdN l = some 116) : wordP l = if Lib.hasPrefix l wTrue.data.toList = true then some (2, 1, l.drop 4) else none := by
  unfold wordP
  have h1 : Lib.hasPrefix l wNull.data.toList = false := pref_no h (by decide)
  have h2 : Lib.hasPrefix l wFalse.data.toList = false := pref_no h (by decide)
  rw [h1, h2]; rfl
theorem wordP_f {l : List UInt8} (h : hdN l = some 102) : wordP l = if Lib.hasPrefix l wFalse.data.toList = true then some (2, 0, l.drop 5) else none := by
  unfold wordP
  have h1 : Lib.hasPrefix l wNull.data.toList = false := pref_no h (by decide)
  have h2 : Lib.hasPrefix l wTrue.data.toList = false := pref_no h (by decide)
  rw [h1, h2]; rfl
theorem wordP_o {l : List UInt8} {c : Nat} (h : hdN l = some c) (h1 : c ≠ 110) (h2 : c ≠ 116) (h3 : c ≠ 102) : wordP l = none := by
  unfold wordP
  have e1 : Lib.hasPrefix l wNull.data.toList = false := pref_no h (by show (110 : Nat) ≠ c; omega)
  have e2 : Lib.hasPrefix l wTrue.data.toList = false := pref_no h (by show (116 : Nat) ≠ c; omega)
  have e3 : Lib.hasPrefix l wFalse.data.toList = false := pref_no h (by show (102 : Nat) ≠ c; omega)
  rw [e1, e2, e3]; rfl
/-- An item and what comes behind it. -/
def elT (k : Nat) (kind : Int) (e d : Nat) (ns : List (List UInt8)) (its : List Js) (l : List UInt8) : Except Int (Js × List UInt8) := match bareF k (d + 1) l with
  | .error c => .error c
  | .ok (x, r) => if hdN (spL r) = some e then .ok (.mk kind 0 [] ns (its ++ [x]), (spL r).tail)
    else if hdN (spL r) = some 44 then elF k kind e d (spL r).tail ns (its ++ [x])
    else .error 181
theorem elF_item {kind : Int} (h : kind ≠ 6) (k e d : Nat) (l : List UInt8) (ns : List (List UInt8)) (its : List Js) : elF (k + 1) kind e d l ns its = elT k kind e d ns its (spL l) := by
  unfold elF elN elT
  rw [if_neg h]
  rfl
theorem elF_name (k e d : Nat) (l : List UInt8) (ns : List (List UInt8)) (its : List Js) : elF (k + 1) 6 e d l ns its = match textP (spL l) with
    | none => .error 181
    | some (t, r) => if t ∈ ns then .error 183 else if hdN (spL r) = some 58 then elT k 6 e d (ns ++ [t]) its (spL (spL r).tail) else .error 181 := by
  unfold elF elN nameP elT
  rw [if_pos rfl]
  cases textP (spL l) with
  | none => rfl
  | some p =>
    obtain ⟨t, r⟩ := p
    by_cases h1 : t ∈ ns
    · simp only [if_pos h1]
    · by_cases h2 : hdN (spL r) = some 58
      · simp only [if_neg h1, if_pos h2]
        rfl
      · simp only [if_neg h1, if_neg h2]
def nmR : Option (Int × List UInt8) → Except Int (Js × List UInt8)
  | some (v, r) => .ok (.mk 3 v [] [] [], r)
  | none => .error 181
theorem bareF_num {K d c : Nat} {l : List UInt8} (h : hdN l = some c) (h1 : c ≠ 91) (h2 : c ≠ 123) (h3 : c ≠ 34) (h4 : c ≠ 110) (h5 : c ≠ 116) (h6 : c ≠ 102) : bareF (K + 1) d l = nmR (docN l) := by
  rw [bareF_rest h h1 h2 h3]
  by_cases hc : c = 45 ∨ dgN c = true
  · rw [if_pos hc, numP_doc]
    cases docN l with
    | none => rfl
    | some p => rfl
  · rw [if_neg hc, wordP_o h h4 h5 h6]
    have hd : digs l = [] := by
      unfold digs
      rw [tkL_no (by rw [h]; intro e; exact hc (.inl (Option.some.inj e)))]
      cases l with
      | nil => rfl
      | cons x l =>
        have : x.toNat = c := Option.some.inj h
        rw [List.takeWhile_cons, if_neg]
        unfold dgU
        rw [this]
        exact fun e => hc (.inr e)
    unfold docN
    rw [if_pos (.inl hd)]
    rfl
theorem bareF_word {K d c : Nat} {l : List UInt8} (h : hdN l = some c) (h1 : c = 110 ∨ c = 116 ∨ c = 102) : bareF (K + 1) d l = plR (wordP l) := by
  rw [bareF_rest h (by omega) (by omega) (by omega), if_neg]
  rcases h1 with rfl | rfl | rfl <;> decide
/-- A value without parts in memory. -/
theorem JAt.plain (w : World) (k n : Int) (t : List UInt8) : JAt w (fun _ => False) (.mk k n t [] []) (jC k n (nmB t) (.slice none 0 0) (.slice none 0 0)) := by
  unfold JAt
  refine ⟨none, 0, none, 0, rfl, fun k hk => absurd hk (Nat.not_lt_zero _), fun a e _ => (by cases e), fun a e _ => (by cases e), ?_⟩
  unfold ItAt; trivial
/-- What stands ahead of a round. -/
def InS (w : World) (gv gr : Nat) (s : ByteArray) (kind : Int) (e K0 d : Nat) (R : Except Int (Js × List UInt8)) (m : Nat) (wr : World) : Prop :=
  ∃ (k' : Nat) (S : Nat → Prop) (ns : List (List UInt8)) (its : List Js) (nv iv : Value) (css : List (Array Value)), InI w gv gr kind S ns its nv iv css wr ∧
    R = elF k' kind e d (tl s m) ns its ∧ spL (tl s m) = tl s m ∧ 2 * (tl s m).length + 2 ≤ k' ∧ k' ≤ K0 ∧ its.length ≤ m ∧ ns.length ≤ its.length
theorem ow_at_str {w : World} {B n cap j : Nat} {ao : Option Addr} {ns : List (List UInt8)} (h : Ow w B 9 (.slice ao n cap) (ns.map strV)) (hj : j < ns.length) : ∃ b off, ao = some ⟨b, off, none⟩ ∧ w.cell? ⟨b, off + j, none⟩ = some (.string (nmB ns[j])) := by
  obtain ⟨g, e1, h1, _⟩ := h.at j (by rw [List.length_map]; exact hj)
  exact ⟨g, 0, e1, by rw [Nat.zero_add, h1, List.getElem_map]; rfl⟩
end Go.Proofs.YtelhgjepjieocaaDoor
